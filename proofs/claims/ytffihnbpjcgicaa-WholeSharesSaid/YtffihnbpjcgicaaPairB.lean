/- What the calls of pair answer that reckon: within, Times, Banded. -/
import Derived.Test.YtffihnbpjcgicaaPairA
namespace Go.Proofs.Ytffihnbpjcgicaa
open Go.RowKit Go.Sort
set_option linter.unusedVariables false

def wiB (a n : Int) : Bool := decide (a = 0 ∨ n.natAbs ≤ 9007199254740992 / a.natAbs)
theorem wi_mul {a n : Int} (h : wiB a n = true) : (a * n).natAbs ≤ 9007199254740992 := by
  simp only [wiB, decide_eq_true_eq] at h
  rw [Int.natAbs_mul]
  rcases h with h | h
  · subst h; simp
  · rcases Nat.eq_zero_or_pos a.natAbs with h0 | h0
    · rw [h0]; simp
    · rw [Nat.mul_comm]; exact (Nat.le_div_iff_mul_le h0).1 h
theorem wi_of {a n : Int} (h : (a * n).natAbs ≤ 9007199254740992) : wiB a n = true := by
  simp only [wiB, decide_eq_true_eq]
  by_cases h0 : a = 0
  · exact .inl h0
  · right
    rw [Int.natAbs_mul, Nat.mul_comm] at h
    exact (Nat.le_div_iff_mul_le (by omega)).2 h
theorem within_any (a n : Int) (W : World) (ha : -9223372036854775808 ≤ a) (ha' : a ≤ 9223372036854775807) (hn : -9223372036854775808 ≤ n) (hn' : n ≤ 9223372036854775807) :
    Calls Try.prog 68 #[.int .i64 a, .int .i64 n] W fun e w' => e = .returned (.bool (wiB a n)) ∧ W = w' := by
  by_cases h0 : a = 0
  · have t1 : (a == 0) = true := by simp [h0]
    have H0 := Lib.hid h0
    clear h0
    go_enter Try.func68, Try.ntmps68
    go_wp2
    go_ret
    exact ⟨ret_b (by simp [wiB, H0.out]), rfl⟩
  · have t1 : (a == 0) = false := by simpa using h0
    have c1 := abs_any n W hn hn'
    have c2 := fun W => abs_any a W ha ha'
    have p1 : 1 ≤ a.natAbs := by omega
    have p2 : a.natAbs ≤ 9223372036854775808 := by omega
    have p3 : n.natAbs ≤ 9223372036854775808 := by omega
    have hv : wiB a n = decide (n.natAbs ≤ 9007199254740992 / a.natAbs) := by simp [wiB, h0]
    have HV := Lib.hid hv
    have p5 : ((a.natAbs : Int) == 0) = false := by simp; omega
    clear hv h0
    generalize a.natAbs = u at *
    generalize n.natAbs = v at *
    have p4 : (1 : Int) ≤ (u : Int) := by omega
    have hq : ((9007199254740992 : Int) / (u : Int)) = ((9007199254740992 / u : Nat) : Int) := (Int.natCast_ediv 9007199254740992 u).symm
    have HQ := Lib.hid hq
    clear hq
    go_enter Try.func68, Try.ntmps68
    go_wp2_with (fail)
    with_reducible refine c1.mono ?_
    rintro e w' ⟨rfl, rfl⟩
    go_wp2_with (fail)
    with_reducible refine (c2 _).mono ?_
    rintro e w' ⟨rfl, rfl⟩
    go_wp2
    go_ret
    exact ⟨ret_b (by rw [HV.out]; first | rfl | (rw [HQ.out]; exact decide_eq_decide.2 Int.ofNat_le) | (simp only [HQ.out, Int.ofNat_le]) | (trace_state; sorry)), rfl⟩
theorem within_b (a n : Int) (v : Bool) (hv : wiB a n = v) (ha : sdB a = true) (hn : sdB n = true) (W : World) :
    Calls Try.prog 68 #[.int .i64 a, .int .i64 n] W fun e w' => e = .returned (.bool v) ∧ W = w' := by
  subst hv
  have h1 := sdB_yes ha
  have h2 := sdB_yes hn
  exact within_any a n W (by omega) (by omega) (by omega) (by omega)

theorem times_ok (x y : Nat) (a b n : Int) (hx : Is x a) (hy : Is y b) (ha : sdB a = true) (hb : sdB b = true) (hn : sdB n = true) (h1 : wiB a n = true) (h2 : wiB b n = true) (W : World) :
    Calls Try.prog 63 #[.complex .f64 x y, .int .i64 n] W fun e w' => e = .returned (.tuple #[.complex .f64 (floatOfInt .f64 (a * n)) (floatOfInt .f64 (b * n)), .int .i64 0]) ∧ W = w' := by
  have c1 := sides_ok x y a b hx hy ha hb
  have c2 := exact_b n true hn
  have c3 := within_b a n true h1 ha hn
  have c4 := within_b b n true h2 hb hn
  have m1 := wi_mul h1
  have m2 := wi_mul h2
  have c5 := of_ok2 (a * n) (b * n) (sdB_mk (by omega) (by omega)) (sdB_mk (by omega) (by omega))
  have l1 : -9223372036854775808 ≤ a * n := by omega
  have l2 : a * n ≤ 9223372036854775807 := by omega
  have l3 : -9223372036854775808 ≤ b * n := by omega
  have l4 : b * n ≤ 9223372036854775807 := by omega
  clear hx hy ha hb hn h1 h2 m1 m2
  go_enter Try.func63, Try.ntmps63
  go_wp2_with (fail)
  with_reducible refine (c1 _).mono ?_
  rintro e w' ⟨rfl, rfl⟩
  go_wp2_with (fail)
  with_reducible refine (c2 _).mono ?_
  rintro e w' ⟨rfl, rfl⟩
  go_wp2_with (fail)
  with_reducible refine (c3 _).mono ?_
  rintro e w' ⟨rfl, rfl⟩
  go_wp2_with (fail)
  with_reducible refine (c4 _).mono ?_
  rintro e w' ⟨rfl, rfl⟩
  go_wp2_with (fail)
  with_reducible refine (c5 _).mono ?_
  rintro e w' ⟨rfl, rfl⟩
  go_wp2
  go_ret2
  exact ⟨rfl, rfl⟩
theorem times_bad (x y : Nat) (a b n : Int) (hx : Is x a) (hy : Is y b) (ha : sdB a = true) (hb : sdB b = true) (hn : -9223372036854775808 ≤ n) (hn' : n ≤ 9223372036854775807) (h : (sdB n && wiB a n && wiB b n) = false) (W : World) :
    Calls Try.prog 63 #[.complex .f64 x y, .int .i64 n] W fun e w' => e = .returned (.tuple #[.complex .f64 0 0, .int .i64 10]) ∧ W = w' := by
  have c1 := sides_ok x y a b hx hy ha hb
  cases h0 : sdB n
  · have c2 := exact_b n false h0
    clear hx hy ha hb hn hn' h h0
    go_enter Try.func63, Try.ntmps63
    go_wp2_with (fail)
    with_reducible refine (c1 _).mono ?_
    rintro e w' ⟨rfl, rfl⟩
    go_wp2_with (fail)
    with_reducible refine (c2 _).mono ?_
    rintro e w' ⟨rfl, rfl⟩
    go_wp2
    go_ret2
    exact ⟨rfl, rfl⟩
  · have c2 := exact_b n true h0
    cases h1 : wiB a n
    · have c3 := within_b a n false h1 ha h0
      clear hx hy ha hb hn hn' h h0 h1
      go_enter Try.func63, Try.ntmps63
      go_wp2_with (fail)
      with_reducible refine (c1 _).mono ?_
      rintro e w' ⟨rfl, rfl⟩
      go_wp2_with (fail)
      with_reducible refine (c2 _).mono ?_
      rintro e w' ⟨rfl, rfl⟩
      go_wp2_with (fail)
      with_reducible refine (c3 _).mono ?_
      rintro e w' ⟨rfl, rfl⟩
      go_wp2
      go_ret2
      exact ⟨rfl, rfl⟩
    · have c3 := within_b a n true h1 ha h0
      have c4 := within_b b n false (by rw [h0, h1] at h; simpa using h) hb h0
      clear hx hy ha hb hn hn' h h0 h1
      go_enter Try.func63, Try.ntmps63
      go_wp2_with (fail)
      with_reducible refine (c1 _).mono ?_
      rintro e w' ⟨rfl, rfl⟩
      go_wp2_with (fail)
      with_reducible refine (c2 _).mono ?_
      rintro e w' ⟨rfl, rfl⟩
      go_wp2_with (fail)
      with_reducible refine (c3 _).mono ?_
      rintro e w' ⟨rfl, rfl⟩
      go_wp2_with (fail)
      with_reducible refine (c4 _).mono ?_
      rintro e w' ⟨rfl, rfl⟩
      go_wp2
      go_ret2
      exact ⟨rfl, rfl⟩

/-- two exact pairs together, no side beyond the most: side by side -/
theorem csum_is {x y u v : Nat} {a b c d : Int} (h1 : Is x a) (h2 : Is y b) (h3 : Is u c) (h4 : Is v d) (ha : a.natAbs ≤ 9007199254740992) (hb : b.natAbs ≤ 9007199254740992) (hc : c.natAbs ≤ 9007199254740992) (hd : d.natAbs ≤ 9007199254740992)
    (hac : (a + c).natAbs ≤ 9007199254740992) (hbd : (b + d).natAbs ≤ 9007199254740992) :
    ∃ r q, Is r (a + c) ∧ Is q (b + d) ∧ ∀ (P : Program) W t, (binOp .add t (.complex .f64 x y) (.complex .f64 u v)).run P W = .ok (.complex .f64 r q) W := by
  obtain ⟨r, m, e1, i1, p1⟩ := add_is h1 h3 ha hc
  obtain ⟨q, k, e2, i2, p2⟩ := add_is h2 h4 hb hd
  rw [p1.1 hac] at i1
  rw [p2.1 hbd] at i2
  refine ⟨r, q, i1, i2, fun P W t => run_complex_sum (P := P) W .add (.inl rfl) t .f64 x y u v r q ?_⟩
  have f1 : floatBits .add .f64 x u = some r := e1
  have f2 : floatBits .add .f64 y v = some q := e2
  unfold cSumBits
  rw [f1, f2]
  rfl
/-- what holds at each pass of Banded's label -/
def BdJ (w : World) (x : Int) (A : Option Addr) (n c : Nat) (F R E : Nat → Int) (S T : Int) (a : Act) (W : World) : Prop :=
  ∃ (i sx sy : Nat) (l s t : Int) (u2 u3 u6 u10 u11 u12 u13 u14 u15 u16 u17 u18 u19 u20 u21 u22 u23 u24 u25 u26 u27 u28 u29 u30 u31 u32 u33 u34 u35 u36 u37 u38 u39 u40 u41 u42 u43 u44 u45 u46 u47 u48 u49 u50 u51 u52 u53 u54 u55 u56 u57 u58 u59 u60 u61 u62 u63 u64 u65 u66 : Value), a = { tmps := #[.int .i64 x, .slice A n c, u2, u3, .complex .f64 0 0, .int .i64 0, u6, .complex .f64 sx sy, .int .i64 l, .int .i64 (i : Nat), u10, u11, u12, u13, u14, u15, u16, u17, u18, u19, u20, u21, u22, u23, u24, u25, u26, u27, u28, u29, u30, u31, u32, u33, u34, u35, u36, u37, u38, u39, u40, u41, u42, u43, u44, u45, u46, u47, u48, u49, u50, u51, u52, u53, u54, u55, u56, u57, u58, u59, u60, u61, u62, u63, u64, u65, u66], defers := [] } ∧ i < n ∧ F i ≤ l ∧ l ≤ 100000000000 ∧ 0 ≤ s ∧ s + lowb F R i l = S ∧ 0 ≤ t ∧ t + lowb F E i l = T ∧ Is sx s ∧ Is sy t ∧ Below w.heap.size w W
def BdM (a : Act) : Nat := (intOf (a.tmps.getD 9 undef)).toNat
set_option maxHeartbeats 8000000 in
set_option maxRecDepth 100000 in
theorem banded_ok (n c : Nat) (x : Int) (A : Option Addr) (F R E : Nat → Int) (w : World) (h : Bds w A n F R E) (hok : Okb F R E n) (hx : amtB x = true) :
    Calls Try.prog 58 #[.int .i64 x, .slice A n c] w fun e w' => ∃ sx sy, e = .returned (.tuple #[.complex .f64 sx sy, .int .i64 0]) ∧ Is sx (exactV F R n x) ∧ Is sy (exactV F E n x) ∧ Below w.heap.size w w' := by
  have ck := check_any A n c w F R E h (by have := hok.2.1; omega)
  rw [chk_of hok] at ck
  obtain ⟨o1, o2, oI, oF, oR, oE⟩ := hok
  obtain ⟨x1, x2⟩ := amtB_yes hx
  have fd := fun (W : World) (hW : Bds W A n F R E) => find_any x A n c W F R E hW o1 (by omega)
  have hS := exact_bd (R := R) o1 oI oF oR x2
  have hT := exact_bd (R := E) o1 oI oF oE x2
  have hl := find_left oI x
  have hfn := fnd_lt F x (n := n) (by omega)
  have HS : Hid (exactV F R n x = lowb F R (fnd F x n) (max x 0)) := Lib.hid rfl
  have HT : Hid (exactV F E n x = lowb F E (fnd F x n) (max x 0)) := Lib.hid rfl
  have e0 : (x < 0 ∧ max x 0 = 0) ∨ (0 ≤ x ∧ max x 0 = x) := by omega
  generalize exactV F R n x = S at *
  generalize exactV F E n x = T at *
  generalize fnd F x n = j at *
  generalize max x 0 = L at *
  go_enter Try.func58, Try.ntmps58
  go_wp2_with (fail)
  refine scope_jumps 0 (BdJ w x A n c F R E S T) (fun a _ => BdM a) rfl ?_ ?_
  · rintro a W ⟨i, sx, sy, l, s, t, u2, u3, u6, u10, u11, u12, u13, u14, u15, u16, u17, u18, u19, u20, u21, u22, u23, u24, u25, u26, u27, u28, u29, u30, u31, u32, u33, u34, u35, u36, u37, u38, u39, u40, u41, u42, u43, u44, u45, u46, u47, u48, u49, u50, u51, u52, u53, u54, u55, u56, u57, u58, u59, u60, u61, u62, u63, u64, u65, u66, rfl, hi, hl1, hl2, hs0, hsum, ht0, htum, hsx, hsy, hb⟩
    have hB := h.below hb
    have hRi := oR i hi
    have hEi := oE i hi
    have hFi := oF i hi
    obtain ⟨b, o, rfl, hc⟩ := hB (by omega)
    obtain ⟨c0, c1, c2⟩ := hc i hi
    have hlow : ∀ V : Nat → Int, Rts V n → ∀ s' S', s' + lowb F V i l = S' → (∀ j, i = j + 1 → 0 ≤ lowb F V j (F i) ∧ s' + (l - F i) * V i + lowb F V j (F i) = S') ∧ (i = 0 → s' + (l - F i) * V i = S') := fun V hV s' S' hsum' => by
      constructor
      · intro j hj
        subst hj
        have h1 := low_nn oI hV (j := j) (l := F (j + 1)) (by omega) (by have := inc_lt oI (i := j) (j := j + 1) (by omega) hi; omega)
        have h2 : lowb F V (j + 1) l = (l - F (j + 1)) * V (j + 1) + lowb F V j (F (j + 1)) := rfl
        omega
      · intro hj
        subst hj
        have h2 : lowb F V 0 l = (l - F 0) * V 0 := rfl
        omega
    obtain ⟨ra, rb⟩ := hlow R oR s S hsum
    obtain ⟨ea, eb⟩ := hlow E oE t T htum
    have hd : 0 ≤ l - F i := by omega
    have hP := Int.mul_nonneg hd hRi.1
    have hQ := Int.mul_nonneg hd hEi.1
    have hP2 : s + (l - F i) * R i ≤ S := by
      by_cases h0 : i = 0
      · have := rb h0; omega
      · have := (ra (i - 1) (by omega)).2; have := (ra (i - 1) (by omega)).1; omega
    have hQ2 : t + (l - F i) * E i ≤ T := by
      by_cases h0 : i = 0
      · have := eb h0; omega
      · have := (ea (i - 1) (by omega)).2; have := (ea (i - 1) (by omega)).1; omega
    have sR : sdB (R i) = true := sdB_mk (by omega) (by omega)
    have sE : sdB (E i) = true := sdB_mk (by omega) (by omega)
    have sD : sdB (l - F i) = true := sdB_mk (by omega) (by omega)
    have cO := of_ok2 (R i) (E i) sR sE
    have wR : wiB (R i) (l - F i) = true := wi_of (by rw [Int.mul_comm]; omega)
    have wE : wiB (E i) (l - F i) = true := wi_of (by rw [Int.mul_comm]; omega)
    have cT := times_ok _ _ (R i) (E i) (l - F i) (of_is (R i) (by omega)) (of_is (E i) (by omega)) sR sE sD wR wE
    rw [Int.mul_comm (R i), Int.mul_comm (E i)] at cT
    obtain ⟨rx, ry, irx, iry, hadd⟩ := csum_is hsx hsy (of_is ((l - F i) * R i) (by omega)) (of_is ((l - F i) * E i) (by omega)) (by omega) (by omega) (by omega) (by omega) (by omega) (by omega)
    have hadd2 := fun W => hadd Try.prog W 96
    have cA := fun (d : Nat) (os : Array Obj) => Calls.regrown_of (d := d) (os := os) (w := W) ((cO (grow (redrawn W d) os)).mono fun _ _ hh => ⟨hh.1, hh.2 ▸ Below.refl _ _⟩)
    have k0 := fun d os => cell_regrown c0 d os
    have k1 := fun d os => cell_regrown c1 d os
    have k2 := fun d os => cell_regrown c2 d os
    obtain ⟨f1, f2⟩ := hFi
    generalize (l - F i) * R i = P at *
    generalize (l - F i) * E i = Q at *
    generalize floatOfInt .f64 P = pbx at *
    generalize floatOfInt .f64 Q = pby at *
    generalize floatOfInt .f64 (R i) = obx at *
    generalize floatOfInt .f64 (E i) = oby at *
    have l1 : -9223372036854775808 ≤ l - F i := by omega
    have l2 : l - F i ≤ 9223372036854775807 := by omega
    have wl : IntKind.i64.wrap (l - F i) = l - F i := IntWalk.i64_in _ (by omega)
    have hib : (i : Int) < (n : Int) := by omega
    have hin : i ≤ n := by omega
    have RA := Lib.hid ra
    have RB := Lib.hid rb
    have EA := Lib.hid ea
    have EB := Lib.hid eb
    have HB0 := Lib.hid h
    have HSX := Lib.hid hsx
    clear ra rb ea eb hlow hsum htum ck h fd hRi hEi hc hB e0 HS HT hl hfn cO sR sE sD wR wE hadd hsx hsy
    go_wp2_with (fail)
    refine wp_region_quiet_below mixedAll (by kernel_rfl) ?_
    iterate 10 (go_big_quiet_step (fail))
    go_big_quiet_step (exact cA _ _)
    repeat (go_big_quiet_step (fail))
    refine wpQuiet_nil ?_
    intro _ hw'
    obtain ⟨⟨dq, osq⟩, hw''⟩ := hw'
    subst hw''
    have hb3 := hb.trans ((below_regrown W dq osq).mono hb.size)
    have c0' := k0 dq osq
    generalize grow (redrawn W dq) osq = W3 at *
    clear cA k0 k1 k2 c0 c1 c2 hb
    by_cases h0 : i = 0
    · have t1 : ((i : Int) == 0) = true := by simp; omega
      have HE := Lib.hid (RB.out h0)
      have HE2 := Lib.hid (EB.out h0)
      clear h0
      go_wp2_with (fail)
      with_reducible refine (cT _).mono ?_
      rintro e w' ⟨rfl, rfl⟩
      go_wp2
      simp only [Exit.jump]
      go_ret2
      exact ⟨rx, ry, rfl, HE.out ▸ irx, HE2.out ▸ iry, hb3⟩
    · have t1 : ((i : Int) == 0) = false := by simp; omega
      have HE := Lib.hid (RA.out (i - 1) (by omega))
      have HE2 := Lib.hid (EA.out (i - 1) (by omega))
      have hle := inc_lt oI (i := i - 1) (j := i) (by omega) hi
      have hi1 : 1 ≤ i := by omega
      clear h0
      go_wp2_with (fail)
      with_reducible refine (cT _).mono ?_
      rintro e w' ⟨rfl, rfl⟩
      go_wp2
      go_step3
      rw [show ((i : Int) - 1) = ((i - 1 : Nat) : Int) by omega]
      refine ⟨rfl, ⟨i - 1, rx, ry, F i, s + P, t + Q, _, _, _, _, _, _, _, _, _, _, _, _, _, _, _, _, _, _, _, _, _, _, _, _, _, _, _, _, _, _, _, _, _, _, _, _, _, _, _, _, _, _, _, _, _, _, _, _, _, _, _, _, _, _, _, _, _, _, _, _, rfl, by omega, by omega, f2, by omega, HE.out.2, by omega, HE2.out.2, irx, iry, hb3⟩, ?_⟩
      simp [BdM, intOf]
      omega
  · intro pass
    rcases e0 with ⟨e1, e2⟩ | ⟨e1, e2⟩
    all_goals
      first | (have e3 : x = L := e2.symm; subst e3; clear e2) | (subst e2)
      go_wp2_with (fail)
      with_reducible refine ck.mono ?_
      rintro e w1 ⟨rfl, hb1⟩
      go_wp2_with (fail)
      refine (right_at x _ _ _ true hx (by simp [go_sem])).mono ?_
      rintro e w' ⟨rfl, rfl⟩
      have hb2 := hb1.alloc hb1.size (Obj.cells #[Value.int IntKind.i64 x] 2)
      have hB2 := h.below hb2
      generalize w1.alloc _ = w2 at *
      go_wp2_with (fail)
      refine (fd _ hB2).mono ?_
      rintro e w' ⟨rfl, rfl⟩
      go_wp2_with (fail)
      go_step3
      first | (rename_i hk; refine hk _ _ (pass _ _ ?_)) | (rename_i hk _; refine hk _ _ (pass _ _ ?_)) | (rename_i hk _ _; refine hk _ _ (pass _ _ ?_)) | (rename_i hk _ _ _; refine hk _ _ (pass _ _ ?_)) | (rename_i hk _ _ _ _; refine hk _ _ (pass _ _ ?_)) | (rename_i hk _ _ _ _ _; refine hk _ _ (pass _ _ ?_)) | (rename_i hk _ _ _ _ _ _; refine hk _ _ (pass _ _ ?_)) | (rename_i hk _ _ _ _ _ _ _; refine hk _ _ (pass _ _ ?_))
      exact ⟨j, 0, 0, _, 0, 0, _, _, _, _, _, _, _, _, _, _, _, _, _, _, _, _, _, _, _, _, _, _, _, _, _, _, _, _, _, _, _, _, _, _, _, _, _, _, _, _, _, _, _, _, _, _, _, _, _, _, _, _, _, _, _, _, _, _, _, _, rfl, hfn, hl, by omega, by omega, by rw [HS.out]; omega, by omega, by rw [HT.out]; omega, is_zero false, is_zero false, hb2⟩
end Go.Proofs.Ytffihnbpjcgicaa
