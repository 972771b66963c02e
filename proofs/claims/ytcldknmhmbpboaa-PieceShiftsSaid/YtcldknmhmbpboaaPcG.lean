/- What the laws' own value of pieces answers, and Find, At, Straight, Corner. -/
import Derived.Test.YtcldknmhmbpboaaPcE
import Derived.Test.YtcldknmhmbpboaaSearch
namespace Go.Proofs.Ytcldknmhmbpboaa
open Go.RowKit Go.Sort
set_option linter.unusedVariables false
set_option linter.unusedSimpArgs false

/-- pieces whose values may be reckoned -/
structure Rk (f : Lf) : Prop where
  fb : ∀ i, i < f.n → 0 ≤ f.F i ∧ f.F i ≤ 10000000000
  rb : ∀ i, i < f.n → -40000 ≤ f.R i ∧ f.R i ≤ 40000
  vb : ∀ i, i < f.n → -4000000000000000 ≤ f.V i ∧ f.V i ≤ 4000000000000000
theorem Lf.OK.rk {f : Lf} (h : f.OK) : Rk f := ⟨h.fb, h.rb, h.vb⟩
set_option maxHeartbeats 4000000 in
theorem lawat_any (A : Option Addr) (c : Nat) (f : Lf) (x : Int) (w : World) (h : Lm w A f) (hn : f.n ≤ 4611686018427387904) (hk : Rk f) (h0 : 0 ≤ x) (hT : x ≤ 10000000000) :
    Calls Try.prog 13 #[.slice A f.n c, .int .i64 x] w fun e w' => e = .returned (.int .i64 (f.val x)) ∧ Below w.heap.size w w' := by
  have hself := Below.refl w.heap.size w
  have H := Lib.hid h
  have HK := Lib.hid hk
  have HX := Lib.hid (And.intro h0 hT)
  clear h hk h0 hT
  go_enter Try.func13, Try.ntmps13
  go_wp2
  go_loopw [5, 10] (fun s5 k W => ∃ i : Nat, i ≤ f.n ∧ s5 = .int .i64 (f.vl x i) ∧ k = .int .i64 i ∧ Below w.heap.size w W) (fun _ k _ => f.n - (intOf k).toNat)
  case atStart => exact ⟨0, Nat.zero_le _, rfl, rfl, hself⟩
  case round =>
    obtain ⟨i, hi, rfl, rfl, hb⟩ := hrel
    by_cases hlt : i < f.n
    · obtain ⟨b, o, rfl, hc⟩ := H.out (by omega)
      obtain ⟨c0, c1, c2⟩ := hc i hlt
      replace c0 := cell_later hb c0
      replace c1 := cell_later hb c1
      replace c2 := cell_later hb c2
      have B3 := hb.alloc hb.size (.cells #[.int .i64 (f.F i), .int .i64 (f.V i), .int .i64 (f.R i)] 37)
      by_cases hw : f.F i ≤ x
      · have d1 : decide (f.F i ≤ x) = true := decide_eq_true hw
        have hs : f.vl x (i + 1) = f.V i + (x - f.F i) * f.R i := if_pos hw
        have hpb := Lf.prod_bd (d := x - f.F i) (r := f.R i) (by have := HK.out.fb i hlt; have := HX.out; omega) (by have := HK.out.fb i hlt; have := HX.out; omega) (by have := HK.out.rb i hlt; omega) (by have := HK.out.rb i hlt; omega)
        have w2 : IntKind.i64.wrap (x - f.F i) = x - f.F i := IntWalk.i64_in _ (by have := HK.out.fb i hlt; have := HX.out; omega)
        have w3 : IntKind.i64.wrap ((x - f.F i) * f.R i) = (x - f.F i) * f.R i := IntWalk.i64_in _ (by omega)
        have w4 : IntKind.i64.wrap (f.V i + (x - f.F i) * f.R i) = f.vl x (i + 1) := by rw [hs]; exact IntWalk.i64_in _ (by have := HK.out.vb i hlt; omega)
        clear hc hb hw hs hpb
        go_wp2
        go_round
        case rel => exact ⟨i + 1, Nat.succ_le_of_lt hlt, rfl, by go_num, B3⟩
        case measure => exact meas_step hlt
      · have d1 : decide (f.F i ≤ x) = false := decide_eq_false hw
        have HS := Lib.hid (show f.vl x (i + 1) = f.vl x i from if_neg hw)
        clear hc hb hw
        go_wp2
        go_round
        case rel => exact ⟨i + 1, Nat.succ_le_of_lt hlt, by rw [HS.out], by go_num, B3⟩
        case measure => exact meas_step hlt
    · obtain rfl : i = f.n := by omega
      go_wp2
      go_ret
      exact ⟨rfl, hb⟩
/-- the question that Find asks -/
theorem clo_any (b o p q c : Nat) (f : Lf) (x : Int) (w : World) (h : Lm w (some ⟨b, o, none⟩) f) (i : Nat) (hi : i < f.n) (hn : f.n ≤ 4611686018427387904) (hp : w.cell? ⟨p, 0, none⟩ = some (.slice (some ⟨b, o, none⟩) f.n c)) (hq : w.cell? ⟨q, 0, none⟩ = some (.int .i64 x)) :
    Calls Try.prog 37 #[.int .i64 (i : Int), .pointer (some ⟨p, 0, none⟩), .pointer (some ⟨q, 0, none⟩)] w fun e w' => e = .returned (.bool (decide (x < f.F i))) ∧ Below w.heap.size w w' := by
  obtain ⟨b', o', hA, hc⟩ := h (by omega)
  obtain ⟨rfl, rfl⟩ : b = b' ∧ o = o' := by simpa using hA
  have c0 := (hc i hi).1
  have hself := Below.refl w.heap.size w
  clear hc h hA
  go_enter Try.func37, Try.ntmps37
  go_wp2
  go_quiet (fail)
  rename_i nq _ _
  have B3 := below_drewN hself nq
  go_wp2
  go_ret
  exact ⟨rfl, B3⟩
theorem Lf.ix_zero {f : Lf} {x : Int} : ∀ {k : Nat}, (∀ t, t < k → x < f.F t) → f.ix x k = 0
  | 0, _ => rfl
  | k + 1, h => by
    have := h k (by omega)
    exact (if_neg (by omega)).trans (Lf.ix_zero fun t ht => h t (by omega))
theorem Lf.Ord.srch {f : Lf} (hf : f.Ord) {x : Int} {i : Nat} (hi : i ≤ f.n) (h1 : ∀ t, t < i → decide (x < f.F t) = false) (h2 : ∀ t, i ≤ t → t < f.n → decide (x < f.F t) = true) : (0 < i → f.idx x = i - 1) ∧ (i = 0 → f.idx x = 0) := by
  constructor
  · intro h0
    have := h1 (i - 1) (by omega)
    rw [decide_eq_false_iff_not] at this
    exact (hf.ix_is (Nat.le_refl _) (i := i - 1) (by omega) (by omega) fun j a b => by simpa using h2 j (by omega) b).1
  · intro h0
    exact Lf.ix_zero fun t ht => by simpa using h2 t (by omega) ht
set_option maxHeartbeats 4000000 in
theorem find_any (A : Option Addr) (c : Nat) (f : Lf) (x : Int) (w : World) (h : Lm w A f) (hf : f.Ord) (hn : f.n ≤ 4611686018427387) :
    Calls Try.prog 25 #[.slice A f.n c, .int .i64 x] w fun e w' => e = .returned (.int .i64 (f.idx x : Int)) ∧ Below w.heap.size w w' := by
  obtain ⟨b, o, rfl, hc⟩ := id (h (by have := hf.n1; omega))
  have B1 := below_new w (.cells #[.slice (some ⟨b, o, none⟩) f.n c] 23)
  have B2 := B1.alloc (by simp) (.cells #[.int .i64 x] 2)
  have K1 := (bx_new w [.slice (some ⟨b, o, none⟩) f.n c] 23).alloc (.cells #[.int .i64 x] 2)
  have K2 := bx_at (w.alloc (.cells #[.slice (some ⟨b, o, none⟩) f.n c] 23)) [.int .i64 x] 2 (n := w.heap.size + 1) (by simp)
  have HL := h.below B2
  have k10 := K1.cell (i := 0) rfl
  have k20 := K2.cell (i := 0) rfl
  clear h hc
  have eg : ∀ args w, (callFunc 37 args).run Try.prog w = .ok (.enter 37 args) w := by
    have h : Enters Try.prog 37 := enters_of Try.func37 (by kernel_rfl) rfl
    exact fun args w => h args w
  go_enter Try.func25, Try.ntmps25
  go_wp2_with (fail)
  with_reducible refine (search_any 37 #[.pointer (some ⟨w.heap.size, 0, none⟩), .pointer (some ⟨w.heap.size + 1, 0, none⟩)] f.n (fun t => decide (x < f.F t)) _ (fun args w => eg args w) ?_ ?_ ?_).mono ?_
  case _ => omega
  case _ =>
    intro W hb i hi
    exact clo_any b o w.heap.size (w.heap.size + 1) c f x W (HL.below hb) i hi (by omega) (cell_later hb k10) (cell_later hb k20)
  case _ =>
    intro i j hij hj h
    rw [decide_eq_true_eq] at h ⊢
    by_cases e : i = j
    · subst e; exact h
    · have := hf.mono (i := i) (j := j) (by omega) hj
      omega
  rintro e w3 ⟨i, hi, rfl, h1, h2, hB⟩
  have B3 := below_step B2 hB B2.size
  obtain ⟨s1, s2⟩ := hf.srch hi h1 h2
  clear h1 h2 HL k10 k20 K1 K2 B1 B2 hB hf
  rcases Nat.eq_zero_or_pos i with hi0 | hi0
  · subst hi0
    have HE := Lib.hid (s2 rfl)
    clear s1 s2
    go_wp2
    go_ret
    exact ⟨by rw [HE.out]; rfl, B3⟩
  · have HE := Lib.hid (s1 hi0)
    have w1 : IntKind.i64.wrap ((i : Int) - 1) = (i : Int) - 1 := IntWalk.i64_in _ (by omega)
    have d1 : decide ((i : Int) - 1 < 0) = false := by simp; omega
    clear s1 s2
    go_wp2
    go_ret
    exact ⟨ret_i (by rw [HE.out]; omega), B3⟩
theorem lm_at {W : World} {A : Option Addr} {f : Lf} (h : Lm W A f) {i : Nat} (hi : i < f.n) : ∃ b o, A = some ⟨b, o, none⟩ ∧ W.cell? ⟨b, o + i * 3, none⟩ = some (.int .i64 (f.F i)) ∧ W.cell? ⟨b, o + i * 3 + 1, none⟩ = some (.int .i64 (f.V i)) ∧ W.cell? ⟨b, o + i * 3 + 2, none⟩ = some (.int .i64 (f.R i)) := by
  obtain ⟨b, o, e, hc⟩ := h (by omega)
  exact ⟨b, o, e, hc i hi⟩
/-- At's answer -/
def atE (f : Lf) (x : Int) : Int := if f.chk = 0 then (if xB x = true then 0 else 1) else f.chk
def atV (f : Lf) (x : Int) : Int := if f.chk = 0 then (if xB x = true then f.val x else 0) else 0
set_option maxHeartbeats 4000000 in
theorem at_any (A : Option Addr) (c : Nat) (f : Lf) (x : Int) (w : World) (h : Lm w A f) (hn : f.n ≤ 4611686018427387) :
    Calls Try.prog 11 #[.slice A f.n c, .int .i64 x] w fun e w' => e = .returned (.tuple #[.int .i64 (atV f x), .int .i64 (atE f x)]) ∧ Below w.heap.size w w' := by
  have cC := check_any A c f w h (by omega)
  by_cases hc : f.chk = 0
  · rw [hc] at cC
    have hOK := Lf.chk_zero hc
    have cW := within_any x
    cases hx : xB x
    · have hV : atV f x = 0 := by unfold atV; rw [if_pos hc, hx]; rfl
      have hE : atE f x = 1 := by unfold atE; rw [if_pos hc, hx]; rfl
      rw [hV, hE]
      rw [hx] at cW
      clear hc hx hV hE
      go_enter Try.func11, Try.ntmps11
      go_wp2_with (fail)
      refine cC.mono ?_
      rintro e w1 ⟨rfl, hb1⟩
      go_wp2_with (fail)
      refine (cW _).mono ?_
      rintro e w2 ⟨rfl, hb2⟩
      have B2 := below_step hb1 hb2 hb1.size
      go_wp2
      go_ret2
      exact ⟨rfl, B2⟩
    · have hV : atV f x = f.ln (f.idx x) x := by
        have := xB_yes hx
        unfold atV; rw [if_pos hc, hx]; exact (hOK.toOrd.idx_bd this.1 this.2).2.2.2
      have hE : atE f x = 0 := by unfold atE; rw [if_pos hc, hx]; rfl
      rw [hV, hE]
      rw [hx] at cW
      obtain ⟨x0, xT⟩ := xB_yes hx
      obtain ⟨i1, i2, i3, _⟩ := hOK.toOrd.idx_bd x0 xT
      have cF := fun W hh => find_any A c f x W hh hOK.toOrd hn
      have r1 := hOK.rb _ i1
      have v1 := hOK.vb _ i1
      have f1 := hOK.fb _ i1
      have hpb := Lf.prod_bd (d := x - f.F (f.idx x)) (r := f.R (f.idx x)) (by omega) (by omega) (by omega) (by omega)
      have cA := fun W => lat_any (f.F (f.idx x)) (f.V (f.idx x)) (f.R (f.idx x)) x W (by omega) (by omega) (by omega)
      have hln : f.V (f.idx x) + (x - f.F (f.idx x)) * f.R (f.idx x) = f.ln (f.idx x) x := rfl
      rw [hln] at cA
      clear hc hx hV hE hOK r1 v1 f1 hpb hln x0 xT i2 i3
      generalize f.ln (f.idx x) x = y at *
      generalize f.idx x = i at *
      go_enter Try.func11, Try.ntmps11
      go_wp2_with (fail)
      refine cC.mono ?_
      rintro e w1 ⟨rfl, hb1⟩
      go_wp2_with (fail)
      refine (cW _).mono ?_
      rintro e w2 ⟨rfl, hb2⟩
      have B2 := below_step hb1 hb2 hb1.size
      go_wp2_with (fail)
      refine (cF _ (h.below B2)).mono ?_
      rintro e w3 ⟨rfl, hb3⟩
      have B3 := below_step B2 hb3 B2.size
      obtain ⟨b, o, rfl, c0, c1, c2⟩ := lm_at (h.below B3) i1
      go_wp2_with (fail)
      refine (cA _).mono ?_
      rintro e w4 ⟨rfl, hb4⟩
      have B4 := below_step B3 hb4 B3.size
      go_wp2
      go_ret2
      exact ⟨rfl, B4⟩
  · have hV : atV f x = 0 := by unfold atV; rw [if_neg hc]
    have hE : atE f x = f.chk := by unfold atE; rw [if_neg hc]
    rw [hV, hE]
    have b1 : (f.chk != 0) = true := by simp; exact hc
    clear hc hV hE
    generalize f.chk = q at *
    go_enter Try.func11, Try.ntmps11
    go_wp2_with (fail)
    refine cC.mono ?_
    rintro e w1 ⟨rfl, hb1⟩
    go_wp2
    go_ret2
    exact ⟨rfl, hb1⟩
/-- a function, if it is one -/
theorem checked_any (A : Option Addr) (c : Nat) (f : Lf) (w : World) (h : Lm w A f) (hn : f.n ≤ 4611686018427387) (q : Int) (hq : f.chk = q) :
    Calls Try.prog 33 #[.slice A f.n c] w fun e w' => (q = 0 → e = .returned (.tuple #[.slice A f.n c, .int .i64 0])) ∧ (q ≠ 0 → e = .returned (.tuple #[.slice none 0 0, .int .i64 q])) ∧ Below w.heap.size w w' := by
  have cC := check_any A c f w h (by omega)
  rw [hq] at cC
  clear hq
  by_cases hc : q = 0
  · subst hc
    go_enter Try.func33, Try.ntmps33
    go_wp2_with (fail)
    refine cC.mono ?_
    rintro e w1 ⟨rfl, hb1⟩
    go_wp2
    go_ret2
    exact ⟨fun _ => rfl, fun h => absurd rfl h, hb1⟩
  · have b1 : (q != 0) = true := by simp; exact hc
    have HC := Lib.hid hc
    clear hc
    go_enter Try.func33, Try.ntmps33
    go_wp2_with (fail)
    refine cC.mono ?_
    rintro e w1 ⟨rfl, hb1⟩
    go_wp2
    go_ret2
    exact ⟨fun h => absurd h HC.out, fun _ => rfl, hb1⟩
/-- what is wrong with two functions -/
def botE (f g : Lf) : Int := if f.chk = 0 then g.chk else f.chk
theorem both_any (A B : Option Addr) (c d : Nat) (f g : Lf) (w : World) (h : Lm w A f) (h2 : Lm w B g) (hn : f.n ≤ 4611686018427387) (hm : g.n ≤ 4611686018427387) :
    Calls Try.prog 30 #[.slice A f.n c, .slice B g.n d] w fun e w' => e = .returned (.int .i64 (botE f g)) ∧ Below w.heap.size w w' := by
  have cC := check_any A c f w h (by omega)
  have cD := fun W hh => check_any B d g W hh (by omega)
  by_cases hc : f.chk = 0
  · have hE : botE f g = g.chk := if_pos hc
    rw [hE]
    rw [hc] at cC
    clear hc hE
    go_enter Try.func30, Try.ntmps30
    go_wp2_with (fail)
    refine cC.mono ?_
    rintro e w1 ⟨rfl, hb1⟩
    go_wp2_with (fail)
    refine (cD _ (h2.below hb1)).mono ?_
    rintro e w2 ⟨rfl, hb2⟩
    have B2 := below_step hb1 hb2 hb1.size
    go_wp2
    go_ret
    exact ⟨rfl, B2⟩
  · have hE : botE f g = f.chk := if_neg hc
    rw [hE]
    have b1 : (f.chk != 0) = true := by simp; exact hc
    clear hc hE
    generalize f.chk = q at *
    go_enter Try.func30, Try.ntmps30
    go_wp2_with (fail)
    refine cC.mono ?_
    rintro e w1 ⟨rfl, hb1⟩
    go_wp2
    go_ret
    exact ⟨rfl, hb1⟩
end Go.Proofs.Ytcldknmhmbpboaa
