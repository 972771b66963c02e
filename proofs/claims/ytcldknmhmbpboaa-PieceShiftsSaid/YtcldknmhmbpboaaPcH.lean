/- Rows of pieces of the call's own; what Func.then answers: one piece more. -/
import Derived.Test.YtcldknmhmbpboaaPcG
import Derived.Deep.AppendLies
import Derived.Deep.RegionLaw
namespace Go.Proofs.Ytcldknmhmbpboaa
open Go.RowKit Go.Sort
set_option linter.unusedVariables false
set_option linter.unusedSimpArgs false

/-- the cells of the first n pieces -/
def lnL (f : Lf) : Nat → List Value
  | 0 => []
  | n + 1 => lnL f n ++ [.int .i64 (f.F n), .int .i64 (f.V n), .int .i64 (f.R n)]
theorem lnL_len (f : Lf) (n : Nat) : (lnL f n).length = n * 3 := by
  induction n with
  | zero => rfl
  | succ n ih => simp [lnL, ih]; omega
theorem lnL_get (f : Lf) {n i j : Nat} (hi : i < n) (hj : j < 3) : (lnL f n)[i * 3 + j]? = [Value.int .i64 (f.F i), .int .i64 (f.V i), .int .i64 (f.R i)][j]? := by
  induction n with
  | zero => omega
  | succ n ih =>
    show (lnL f n ++ _)[i * 3 + j]? = _
    by_cases h : i < n
    · rw [List.getElem?_append_left (by rw [lnL_len]; omega)]; exact ih h
    · obtain rfl : i = n := by omega
      rw [List.getElem?_append_right (by rw [lnL_len]; omega), lnL_len, show i * 3 + j - i * 3 = j by omega]
theorem lnL_congr {f g : Lf} {n : Nat} (h : ∀ i, i < n → g.F i = f.F i ∧ g.V i = f.V i ∧ g.R i = f.R i) : lnL g n = lnL f n := by
  induction n with
  | zero => rfl
  | succ n ih =>
    obtain ⟨a, b, c⟩ := h n (by omega)
    show lnL g n ++ _ = lnL f n ++ _
    rw [ih fun i hi => h i (by omega), a, b, c]
theorem lnL_pu (f : Lf) (a v r : Int) : lnL (f.pu a v r) (f.pu a v r).n = lnL f f.n ++ [.int .i64 a, .int .i64 v, .int .i64 r] := by
  obtain ⟨n1, n2, n3, _⟩ := f.pu_new a v r
  show lnL (f.pu a v r) f.n ++ _ = _
  rw [lnL_congr (g := f.pu a v r) (f := f) fun i hi => ⟨(f.pu_old a v r hi).1, (f.pu_old a v r hi).2.1, (f.pu_old a v r hi).2.2.1⟩, n1, n2, n3]
/-- a row of the call's own: these pieces -/
def Own (w : World) (B : Nat) (A : Option Addr) (c : Nat) (f : Lf) : Prop := w.ownsRow B 37 3 (.slice A f.n c) f.n (lnL f f.n)
theorem Own.lm {w : World} {B : Nat} {A : Option Addr} {c : Nat} {f : Lf} (h : Own w B A c f) : Lm w A f := fun hn => by
  obtain ⟨A', c', e, hA, hg⟩ := own_len h
  obtain ⟨g, rfl⟩ := hg hn
  obtain ⟨rfl, _, rfl⟩ := Value.slice.inj e
  refine ⟨g, 0, rfl, fun i hi => ?_⟩
  rw [Nat.zero_add]
  exact ⟨own_cells h ((lnL_get f hi (j := 0) (by omega)).trans rfl), own_cells h ((lnL_get f hi (j := 1) (by omega)).trans rfl), own_cells h ((lnL_get f hi (j := 2) (by omega)).trans rfl)⟩
theorem Own.below {w w' : World} {B : Nat} {A : Option Addr} {c : Nat} {f : Lf} (h : Own w B A c f) (hb : Below w.heap.size w w') : Own w' B A c f := own_below h hb
theorem Own.mono {w : World} {B B' : Nat} {A : Option Addr} {c : Nat} {f : Lf} (h : Own w B A c f) (hB : B' ≤ B) : Own w B' A c f := own_mono h hB
theorem own_nil (w : World) (B : Nat) : Own w B none 0 Lf.emp := ⟨rfl, .inl ⟨rfl, rfl⟩⟩
/-- the block of an address -/
def blk (A : Option Addr) : Option Nat := A.map (·.block)
theorem blk_own (A : Option Addr) (n c : Nat) : (Value.slice A n c).ownBlock = blk A := by cases A <;> rfl
theorem grown_of {w w' : World} {o : Option Nat} (h : Below w.heap.size w w') : w.grownBy w' o := ⟨h.os, h.tape, h.output, h.size, fun k hk _ => h.block k hk⟩
theorem infoLn : (Try.prog.info? 37).map (fun i => (i.zero, i.size, i.bytes)) = some (some (.agg #[.int .i64 0, .int .i64 0, .int .i64 0]), 3, 24) := by kernel_rfl
theorem cells_at3 (w : World) (x y z : Value) (t : TypeId) {n : Nat} (hn : w.heap.size = n) : ∀ j u, [x, y, z][j]? = some u → (w.alloc (.cells #[x, y, z] t)).cell? ((⟨n, 0, none⟩ : Addr).add j) = some u := bx_add (bx_at w [x, y, z] t hn)
theorem grown_step {w w1 w2 : World} {o : Option Nat} (h : Below w.heap.size w w1) (g : w1.grownBy w2 o) : w.grownBy w2 o :=
  ⟨g.os.trans h.os, g.tape.trans h.tape, g.output.trans h.output, Nat.le_trans h.size g.size, fun k hk hne => (g.block k (Nat.lt_of_lt_of_le hk h.size) hne).trans (h.block k hk)⟩
/-- how then ends -/
def ThP (B : Nat) (A : Option Addr) (f : Lf) (w : World) (e : Ending) (w' : World) : Prop :=
  ∃ A' c', e = .returned (.slice A' f.n c') ∧ Own w' B A' c' f ∧ w.grownBy w' (blk A) ∧ (blk A' = blk A ∨ ∃ g, blk A' = some g ∧ w.heap.size ≤ g)
set_option maxHeartbeats 4000000 in
set_option maxRecDepth 100000 in
theorem then_any (B : Nat) (A : Option Addr) (c : Nat) (f : Lf) (a y r : Int) (w : World) (h : Own w B A c f) (hB : B ≤ w.heap.size) (hn : f.n ≤ 1000000)
    (ha : 0 ≤ a ∧ a ≤ 10000000000) (hF : ∀ i, i < f.n → 0 ≤ f.F i ∧ f.F i ≤ 10000000000) (hR : ∀ i, i < f.n → -80000 ≤ f.R i ∧ f.R i ≤ 80000) (hV : ∀ i, i < f.n → -8000000000000000 ≤ f.V i ∧ f.V i ≤ 8000000000000000) :
    Calls Try.prog 32 #[.slice A f.n c, .agg #[.int .i64 a, .int .i64 y, .int .i64 r]] w (ThP B A (f.thn a y r) w) := by
  obtain ⟨i0', hi0, hz0, hz1, hz2⟩ := info_parts infoLn
  have Hi := Lib.hid hi0
  have Hz := Lib.hid hz0
  clear hi0 hz0
  have KX := bx_new w [.int .i64 a, .int .i64 y, .int .i64 r] 37
  have NX := below_new w (.cells #[.int .i64 a, .int .i64 y, .int .i64 r] 37)
  have HO := h.below NX
  have HL := h.lm.below NX
  cases hg : f.goB a y r
  · have hT : f.thn a y r = f.pu a y r := by unfold Lf.thn; rw [hg]; rfl
    have hno : ¬ (0 < f.n ∧ f.R (f.n - 1) = r ∧ f.ln (f.n - 1) a = y) := by simpa [Lf.goB] using hg
    rw [hT]
    rcases Nat.eq_zero_or_pos f.n with hn0 | hn0
    · have d0 : decide (0 < (f.n : Int)) = false := by simp; omega
      have d1 : decide (0 < f.n) = false := by simp; omega
      clear hF hR hV hno hn0 hg hT HL
      go_enter Try.func32, Try.ntmps32
      go_wp2
      generalize w.alloc (.cells #[.int .i64 a, .int .i64 y, .int .i64 r] 37) = wk at *
      have kx_0 := fun d os => cell_regrown (KX.cell (i := 0) rfl) d os
      have kx_1 := fun d os => cell_regrown (KX.cell (i := 1) rfl) d os
      have kx_2 := fun d os => cell_regrown (KX.cell (i := 2) rfl) d os
      refine wp_region_quiet_below mixedP (by kernel_rfl) ?_
      repeat (go_big_quiet_step (fail))
      refine wpQuiet_nil ?_
      intro _ hw'
      obtain ⟨⟨dq, osq⟩, hw''⟩ := hw'
      subst hw''
      have BX := below_regrown wk dq osq
      have KZ := KX.below BX
      replace HO := HO.below BX
      have BZ := below_step NX BX NX.size
      clear kx_0 kx_1 kx_2 KX NX BX
      generalize grow (redrawn wk dq) osq = WZ at *
      have kz_0 := KZ.cell (i := 0) rfl
      have kz_1 := KZ.cell (i := 1) rfl
      have kz_2 := KZ.cell (i := 2) rfl
      have hone : ∀ u ∈ ([.int .i64 a, .int .i64 y, .int .i64 r] : List Value), u.oneCell' = true := by simp [Value.oneCell']
      have own9 := HO.below (below_new WZ (.cells #[.int .i64 a, .int .i64 y, .int .i64 r] 37))
      have b9 := BZ.alloc BZ.size (.cells #[.int .i64 a, .int .i64 y, .int .i64 r] 37)
      have hB9 := Nat.le_trans hB b9.size
      have hc3 : Hid (f.n + 1 ≤ maxLen) := Lib.hid (by unfold maxLen; omega)
      have hc4 : Hid ((f.n + 1) * 24 ≤ 140737488355328) := Lib.hid (by omega)
      have HW := Lib.hid BZ.size
      clear KZ HO BZ
      go_wp2_with (refine wpList_append_lies _ rfl (.tmp 35) (.tmp 37) 23 rfl B 37 i0' (.agg #[.int .i64 0, .int .i64 0, .int .i64 0]) 3 24 Try.underlying23 Hi.out Hz.out hz1 hz2 (by rfl) (by decide) _ f.n (lnL f f.n) (by rfl) own9 ⟨_, 0, none⟩ 1 1 [.int .i64 a, .int .i64 y, .int .i64 r] (by rfl) (by rfl) (cells_at3 _ _ _ _ _ rfl) hone (by decide) hc3.out hc4.out hB9 _ rfl ?_; intro g9 cap9 w9 hown9 hgrow hat hlt9)
      rw [blk_own] at hgrow hat
      have HR : ThP B _ (f.pu a y r) w (.returned (.slice (some ⟨g9, 0, none⟩) (f.n + 1) cap9)) w9 := ⟨_, cap9, rfl, (by unfold Own; rw [lnL_pu]; exact hown9), grown_step b9 hgrow, hat.elim (fun e => .inl e.symm) fun e => .inr ⟨g9, rfl, by rw [e]; have := HW.out; simp; omega⟩⟩
      clear hgrow hat hown9 own9 b9
      go_wp2
      go_ret
      exact HR
    · have d0 : decide (0 < (f.n : Int)) = true := by simp; omega
      have d1 : decide (0 < f.n) = true := by simp; omega
      have w1 : IntKind.i64.wrap ((f.n : Int) - 1) = (f.n : Int) - 1 := IntWalk.i64_in _ (by omega)
      have e1 : ((f.n : Int) - 1).toNat = f.n - 1 := by omega
      have i0 : 0 ≤ (f.n : Int) - 1 := by omega
      have i1 : (f.n : Int) - 1 < (f.n : Int) := by omega
      have hF1 := hF (f.n - 1) (by omega)
      have hR1 := hR (f.n - 1) (by omega)
      have hV1 := hV (f.n - 1) (by omega)
      have hpb := Lf.prod_bd (d := a - f.F (f.n - 1)) (r := f.R (f.n - 1)) (by omega) (by omega) (by omega) (by omega)
      obtain ⟨b, o, rfl, p0, p1, p2⟩ := lm_at HL (i := f.n - 1) (by omega)
      have P0 := fun d os => cell_regrown p0 d os
      have P1 := fun d os => cell_regrown p1 d os
      have P2 := fun d os => cell_regrown p2 d os
      have cA : ∀ d os, Calls Try.prog 27 #[.agg #[.int .i64 (f.F (f.n - 1)), .int .i64 (f.V (f.n - 1)), .int .i64 (f.R (f.n - 1))], .int .i64 a] (grow (redrawn (w.alloc (.cells #[.int .i64 a, .int .i64 y, .int .i64 r] 37)) d) os) _ := fun d os => Calls.regrown_of (lat_any (f.F (f.n - 1)) (f.V (f.n - 1)) (f.R (f.n - 1)) a _ (by omega) (by omega) (by omega))
      have hln : f.V (f.n - 1) + (a - f.F (f.n - 1)) * f.R (f.n - 1) = f.ln (f.n - 1) a := rfl
      rw [hln] at cA
      clear hF hR hV hF1 hR1 hV1 hpb hln p0 p1 p2 HL
      by_cases hr : f.R (f.n - 1) = r
      · have hy : f.ln (f.n - 1) a ≠ y := fun e => hno ⟨hn0, hr, e⟩
        have t1 : (f.R (f.n - 1) == r) = true := by simp; exact hr
        have t2 : (f.ln (f.n - 1) a == y) = false := by simp; exact hy
        clear hno hr hy hg hT
        go_enter Try.func32, Try.ntmps32
        go_wp2
        generalize w.alloc (.cells #[.int .i64 a, .int .i64 y, .int .i64 r] 37) = wk at *
        have kx_0 := fun d os => cell_regrown (KX.cell (i := 0) rfl) d os
        have kx_1 := fun d os => cell_regrown (KX.cell (i := 1) rfl) d os
        have kx_2 := fun d os => cell_regrown (KX.cell (i := 2) rfl) d os
        refine wp_region_quiet_below mixedP (by kernel_rfl) ?_
        iterate 21 (go_big_quiet_step (fail))
        go_big_quiet_step (exact cA _ _)
        repeat (go_big_quiet_step (fail))
        refine wpQuiet_nil ?_
        intro _ hw'
        obtain ⟨⟨dq, osq⟩, hw''⟩ := hw'
        subst hw''
        have BX := below_regrown wk dq osq
        have KZ := KX.below BX
        replace HO := HO.below BX
        have BZ := below_step NX BX NX.size
        clear kx_0 kx_1 kx_2 KX NX BX
        generalize grow (redrawn wk dq) osq = WZ at *
        have kz_0 := KZ.cell (i := 0) rfl
        have kz_1 := KZ.cell (i := 1) rfl
        have kz_2 := KZ.cell (i := 2) rfl
        have hone : ∀ u ∈ ([.int .i64 a, .int .i64 y, .int .i64 r] : List Value), u.oneCell' = true := by simp [Value.oneCell']
        have own9 := HO.below (below_new WZ (.cells #[.int .i64 a, .int .i64 y, .int .i64 r] 37))
        have b9 := BZ.alloc BZ.size (.cells #[.int .i64 a, .int .i64 y, .int .i64 r] 37)
        have hB9 := Nat.le_trans hB b9.size
        have hc3 : Hid (f.n + 1 ≤ maxLen) := Lib.hid (by unfold maxLen; omega)
        have hc4 : Hid ((f.n + 1) * 24 ≤ 140737488355328) := Lib.hid (by omega)
        have HW := Lib.hid BZ.size
        clear KZ HO BZ
        go_wp2_with (refine wpList_append_lies _ rfl (.tmp 35) (.tmp 37) 23 rfl B 37 i0' (.agg #[.int .i64 0, .int .i64 0, .int .i64 0]) 3 24 Try.underlying23 Hi.out Hz.out hz1 hz2 (by rfl) (by decide) _ f.n (lnL f f.n) (by rfl) own9 ⟨_, 0, none⟩ 1 1 [.int .i64 a, .int .i64 y, .int .i64 r] (by rfl) (by rfl) (cells_at3 _ _ _ _ _ rfl) hone (by decide) hc3.out hc4.out hB9 _ rfl ?_; intro g9 cap9 w9 hown9 hgrow hat hlt9)
        rw [blk_own] at hgrow hat
        have HR : ThP B _ (f.pu a y r) w (.returned (.slice (some ⟨g9, 0, none⟩) (f.n + 1) cap9)) w9 := ⟨_, cap9, rfl, (by unfold Own; rw [lnL_pu]; exact hown9), grown_step b9 hgrow, hat.elim (fun e => .inl e.symm) fun e => .inr ⟨g9, rfl, by rw [e]; have := HW.out; simp; omega⟩⟩
        clear hgrow hat hown9 own9 b9
        go_wp2
        go_ret
        exact HR
      · have t1 : (f.R (f.n - 1) == r) = false := by simp; exact hr
        clear hno hr hg hT cA
        go_enter Try.func32, Try.ntmps32
        go_wp2
        generalize w.alloc (.cells #[.int .i64 a, .int .i64 y, .int .i64 r] 37) = wk at *
        have kx_0 := fun d os => cell_regrown (KX.cell (i := 0) rfl) d os
        have kx_1 := fun d os => cell_regrown (KX.cell (i := 1) rfl) d os
        have kx_2 := fun d os => cell_regrown (KX.cell (i := 2) rfl) d os
        refine wp_region_quiet_below mixedP (by kernel_rfl) ?_
        repeat (go_big_quiet_step (fail))
        refine wpQuiet_nil ?_
        intro _ hw'
        obtain ⟨⟨dq, osq⟩, hw''⟩ := hw'
        subst hw''
        have BX := below_regrown wk dq osq
        have KZ := KX.below BX
        replace HO := HO.below BX
        have BZ := below_step NX BX NX.size
        clear kx_0 kx_1 kx_2 KX NX BX
        generalize grow (redrawn wk dq) osq = WZ at *
        have kz_0 := KZ.cell (i := 0) rfl
        have kz_1 := KZ.cell (i := 1) rfl
        have kz_2 := KZ.cell (i := 2) rfl
        have hone : ∀ u ∈ ([.int .i64 a, .int .i64 y, .int .i64 r] : List Value), u.oneCell' = true := by simp [Value.oneCell']
        have own9 := HO.below (below_new WZ (.cells #[.int .i64 a, .int .i64 y, .int .i64 r] 37))
        have b9 := BZ.alloc BZ.size (.cells #[.int .i64 a, .int .i64 y, .int .i64 r] 37)
        have hB9 := Nat.le_trans hB b9.size
        have hc3 : Hid (f.n + 1 ≤ maxLen) := Lib.hid (by unfold maxLen; omega)
        have hc4 : Hid ((f.n + 1) * 24 ≤ 140737488355328) := Lib.hid (by omega)
        have HW := Lib.hid BZ.size
        clear KZ HO BZ
        go_wp2_with (refine wpList_append_lies _ rfl (.tmp 35) (.tmp 37) 23 rfl B 37 i0' (.agg #[.int .i64 0, .int .i64 0, .int .i64 0]) 3 24 Try.underlying23 Hi.out Hz.out hz1 hz2 (by rfl) (by decide) _ f.n (lnL f f.n) (by rfl) own9 ⟨_, 0, none⟩ 1 1 [.int .i64 a, .int .i64 y, .int .i64 r] (by rfl) (by rfl) (cells_at3 _ _ _ _ _ rfl) hone (by decide) hc3.out hc4.out hB9 _ rfl ?_; intro g9 cap9 w9 hown9 hgrow hat hlt9)
        rw [blk_own] at hgrow hat
        have HR : ThP B _ (f.pu a y r) w (.returned (.slice (some ⟨g9, 0, none⟩) (f.n + 1) cap9)) w9 := ⟨_, cap9, rfl, (by unfold Own; rw [lnL_pu]; exact hown9), grown_step b9 hgrow, hat.elim (fun e => .inl e.symm) fun e => .inr ⟨g9, rfl, by rw [e]; have := HW.out; simp; omega⟩⟩
        clear hgrow hat hown9 own9 b9
        go_wp2
        go_ret
        exact HR
  · have hT : f.thn a y r = f := by unfold Lf.thn; rw [hg]; rfl
    obtain ⟨hn0, hr, hy⟩ : 0 < f.n ∧ f.R (f.n - 1) = r ∧ f.ln (f.n - 1) a = y := by simpa [Lf.goB] using hg
    rw [hT]
    have d0 : decide (0 < (f.n : Int)) = true := by simp; omega
    have d1 : decide (0 < f.n) = true := by simp; omega
    have w1 : IntKind.i64.wrap ((f.n : Int) - 1) = (f.n : Int) - 1 := IntWalk.i64_in _ (by omega)
    have e1 : ((f.n : Int) - 1).toNat = f.n - 1 := by omega
    have i0 : 0 ≤ (f.n : Int) - 1 := by omega
    have i1 : (f.n : Int) - 1 < (f.n : Int) := by omega
    have hF1 := hF (f.n - 1) (by omega)
    have hR1 := hR (f.n - 1) (by omega)
    have hV1 := hV (f.n - 1) (by omega)
    have hpb := Lf.prod_bd (d := a - f.F (f.n - 1)) (r := f.R (f.n - 1)) (by omega) (by omega) (by omega) (by omega)
    obtain ⟨b, o, rfl, p0, p1, p2⟩ := lm_at HL (i := f.n - 1) (by omega)
    have P0 := fun d os => cell_regrown p0 d os
    have P1 := fun d os => cell_regrown p1 d os
    have P2 := fun d os => cell_regrown p2 d os
    have cA : ∀ d os, Calls Try.prog 27 #[.agg #[.int .i64 (f.F (f.n - 1)), .int .i64 (f.V (f.n - 1)), .int .i64 (f.R (f.n - 1))], .int .i64 a] (grow (redrawn (w.alloc (.cells #[.int .i64 a, .int .i64 y, .int .i64 r] 37)) d) os) _ := fun d os => Calls.regrown_of (lat_any (f.F (f.n - 1)) (f.V (f.n - 1)) (f.R (f.n - 1)) a _ (by omega) (by omega) (by omega))
    have hln : f.V (f.n - 1) + (a - f.F (f.n - 1)) * f.R (f.n - 1) = f.ln (f.n - 1) a := rfl
    rw [hln] at cA
    clear hF hR hV hF1 hR1 hV1 hpb hln p0 p1 p2 HL
    have t1 : (f.R (f.n - 1) == r) = true := by simp; exact hr
    have t2 : (f.ln (f.n - 1) a == y) = true := by simp; exact hy
    clear hr hy hg hT
    go_enter Try.func32, Try.ntmps32
    go_wp2
    generalize w.alloc (.cells #[.int .i64 a, .int .i64 y, .int .i64 r] 37) = wk at *
    have kx_0 := fun d os => cell_regrown (KX.cell (i := 0) rfl) d os
    have kx_1 := fun d os => cell_regrown (KX.cell (i := 1) rfl) d os
    have kx_2 := fun d os => cell_regrown (KX.cell (i := 2) rfl) d os
    refine wp_region_quiet_below mixedP (by kernel_rfl) ?_
    iterate 21 (go_big_quiet_step (fail))
    go_big_quiet_step (exact cA _ _)
    repeat (go_big_quiet_step (fail))
    refine wpQuiet_nil ?_
    intro _ hw'
    obtain ⟨⟨dq, osq⟩, hw''⟩ := hw'
    subst hw''
    have BX := below_regrown wk dq osq
    have KZ := KX.below BX
    replace HO := HO.below BX
    have BZ := below_step NX BX NX.size
    clear kx_0 kx_1 kx_2 KX NX BX
    generalize grow (redrawn wk dq) osq = WZ at *
    have HR : ThP B _ f w (.returned (.slice (some ⟨b, o, none⟩) f.n c)) WZ := ⟨_, c, rfl, HO, grown_of BZ, .inl rfl⟩
    clear HO KZ
    go_wp2
    go_ret
    exact HR
end Go.Proofs.Ytcldknmhmbpboaa
