/- What Straight, Corner and Add answer. -/
import Derived.Test.YtcldknmhmbpboaaPcI
namespace Go.Proofs.Ytcldknmhmbpboaa
open Go.RowKit Go.Sort
set_option linter.unusedVariables false
set_option linter.unusedSimpArgs false

theorem own_one (W : World) (a v r : Int) {n : Nat} (hn : W.heap.size = n) (B : Nat) (hB : B ≤ n) : Own (W.alloc (.cells #[.int .i64 a, .int .i64 v, .int .i64 r] 37)) B (some ⟨n, 0, none⟩) 1 (Lf.one a v r) := by
  subst hn
  exact ⟨rfl, .inr ⟨W.heap.size, 1, #[.int .i64 a, .int .i64 v, .int .i64 r], rfl, hB, by show (W.heap.push _)[W.heap.size]? = _; simp, Nat.le_refl _, by unfold maxLen; omega, rfl, rfl⟩⟩
theorem straight_any (v r : Int) (w : World) : Calls Try.prog 21 #[.int .i64 v, .int .i64 r] w fun e w' => e = .returned (.slice (some ⟨w.heap.size, 0, none⟩) 1 1) ∧ Own w' w.heap.size (some ⟨w.heap.size, 0, none⟩) 1 (Lf.one 0 v r) ∧ Below w.heap.size w w' := by
  have O1 := own_one w 0 v r rfl w.heap.size (Nat.le_refl _)
  have B1 := below_new w (.cells #[.int .i64 0, .int .i64 v, .int .i64 r] 37)
  go_enter Try.func21, Try.ntmps21
  go_wp2
  go_ret
  exact ⟨rfl, O1, B1⟩
/-- Corner's pieces -/
def cor (a : Int) (r : Int) : Lf := if a ≤ 0 then Lf.one 0 ((0 - a) * r) r else if 10000000000 < a then Lf.one 0 0 0 else Lf.two 0 0 0 a 0 r
/-- how Corner ends -/
def CoP (f : Lf) (w : World) (e : Ending) (w' : World) : Prop := ∃ A c, e = .returned (.slice A f.n c) ∧ Lm w' A f ∧ Below w.heap.size w w'
set_option maxHeartbeats 4000000 in
theorem corner_any (a r : Int) (w : World) (ha : -10000000000 ≤ a ∧ a ≤ 10000000000) (hr : 0 ≤ r ∧ r ≤ 10000) :
    Calls Try.prog 20 #[.int .i64 a, .int .i64 r] w (CoP (cor a r) w) := by
  obtain ⟨i0', hi0, hz0, hz1, hz2⟩ := info_parts infoLn
  have Hi := Lib.hid hi0
  have Hz := Lib.hid hz0
  clear hi0 hz0
  have KX := bx_new w [.int .i64 a, .int .i64 0, .int .i64 r] 37
  have NX := below_new w (.cells #[.int .i64 a, .int .i64 0, .int .i64 r] 37)
  by_cases h0 : a ≤ 0
  · have d0 : decide (a ≤ 0) = true := decide_eq_true h0
    have hc : cor a r = Lf.one 0 ((0 - a) * r) r := if_pos h0
    rw [hc]
    have hpb := Lf.prod_bd (d := 0 - a) (r := r) (by omega) (by omega) (by omega) (by omega)
    have cS := fun W => since_any a 0 r 0 W (by omega) (by omega) (by omega)
    rw [show (0 : Int) + (0 - a) * r = (0 - a) * r by omega] at cS
    clear hc hpb h0 ha hr
    generalize (0 - a) * r = y at *
    go_enter Try.func20, Try.ntmps20
    go_wp2_with (fail)
    refine (cS _).mono ?_
    rintro e w2 ⟨rfl, hb⟩
    have B2 := below_step NX hb NX.size
    have O1 := own_one w2 0 y r rfl w.heap.size B2.size
    have B3 := B2.alloc B2.size (.cells #[.int .i64 0, .int .i64 y, .int .i64 r] 37)
    have HR : CoP (Lf.one 0 y r) w (.returned (.slice (some ⟨w2.heap.size, 0, none⟩) 1 1)) (w2.alloc (.cells #[.int .i64 0, .int .i64 y, .int .i64 r] 37)) := ⟨_, 1, rfl, O1.lm, B3⟩
    clear O1 B3 KX
    go_wp2
    go_ret
    exact HR
  · have d0 : decide (a ≤ 0) = false := decide_eq_false h0
    have d1 : decide (10000000000 < a) = false := by simp; omega
    have hc : cor a r = Lf.two 0 0 0 a 0 r := by unfold cor; rw [if_neg h0, if_neg (by omega)]
    rw [hc]
    clear hc ha hr h0
    go_enter Try.func20, Try.ntmps20
    go_wp2_with (fail)
    refine (straight_any 0 0 _).mono ?_
    rintro e w2 ⟨rfl, O1, hb⟩
    have hsz : (w.alloc (.cells #[.int .i64 a, .int .i64 0, .int .i64 r] 37)).heap.size = w.heap.size + 1 := by simp
    rw [hsz] at O1
    have B2 := below_step NX hb NX.size
    have K2 := KX.below hb
    have k0 := K2.cell (i := 0) rfl
    have k1 := K2.cell (i := 1) rfl
    have k2 := K2.cell (i := 2) rfl
    have hone : ∀ u ∈ ([.int .i64 a, .int .i64 0, .int .i64 r] : List Value), u.oneCell' = true := by simp [Value.oneCell']
    have own9 := O1.below (below_new w2 (.cells #[.int .i64 a, .int .i64 0, .int .i64 r] 37))
    have b9 := B2.alloc B2.size (.cells #[.int .i64 a, .int .i64 0, .int .i64 r] 37)
    have hB9 : w.heap.size + 1 ≤ (w2.alloc (.cells #[.int .i64 a, .int .i64 0, .int .i64 r] 37)).heap.size := by have := hb.size; simp at this ⊢; omega
    have hc4 : Hid ((1 + 1) * 24 ≤ 140737488355328) := Lib.hid (by omega)
    clear hsz
    have hc3 : Hid (1 + 1 ≤ maxLen) := Lib.hid (by unfold maxLen; omega)
    clear KX K2 O1
    go_wp2_with (refine wpList_append_lies _ rfl (.tmp 19) (.tmp 21) 23 rfl _ 37 i0' (.agg #[.int .i64 0, .int .i64 0, .int .i64 0]) 3 24 Try.underlying23 Hi.out Hz.out hz1 hz2 (by rfl) (by decide) _ 1 (lnL (Lf.one 0 0 0) 1) (by rfl) own9 ⟨_, 0, none⟩ 1 1 [.int .i64 a, .int .i64 0, .int .i64 r] (by rfl) (by rfl) (cells_at3 _ _ _ _ _ rfl) hone (by decide) hc3.out hc4.out hB9 _ rfl ?_; intro g9 cap9 w9 hown9 hgrow hat hlt9)
    have B9 := b9.grown hgrow b9.size (fun j hj => Nat.le_trans (Nat.le_succ _) (own9.lt j hj).1)
    have HR : CoP (Lf.two 0 0 0 a 0 r) w (.returned (.slice (some ⟨g9, 0, none⟩) 2 cap9)) w9 := ⟨_, cap9, rfl, Own.lm (B := w.heap.size) (own_mono hown9 (Nat.le_succ _)), B9⟩
    clear hown9 own9 hgrow b9 B9
    go_wp2
    go_ret
    exact HR
end Go.Proofs.Ytcldknmhmbpboaa
