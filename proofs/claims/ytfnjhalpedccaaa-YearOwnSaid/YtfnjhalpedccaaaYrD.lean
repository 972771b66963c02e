/- What base.Add answers; an overflow of share.Post. -/
import Derived.Test.YtfnjhalpedccaaaYrC
namespace Go.Proofs.Ytfnjhalpedccaaa
open Go.RowKit Go.Sort
set_option linter.unusedVariables false
set_option linter.unusedSimpArgs false

theorem each_bad (a b c x y z : Int) (w : World) (h : (eB a x && eB b y && eB c z) = false) :
    Calls Try.prog 66 #[.agg #[.int .i64 a, .int .i64 b, .int .i64 c], .agg #[.int .i64 x, .int .i64 y, .int .i64 z], fvA] w fun e w' => e = .returned (.tuple #[.agg #[.int .i64 0, .int .i64 0, .int .i64 0], .int .i64 10]) ∧ Below w.heap.size w w' := by
  cases h0 : eB a x
  · exact each_0 a b c x y z w h0
  cases h1 : eB b y
  · exact each_1 a b c x y z w h0 h1
  rw [h0, h1] at h
  exact each_2 a b c x y z w h0 h1 h
theorem badd_go (a b c x y z s0 s1 s2 q : Int) (w : World) (h : ∀ w, Calls Try.prog 66 #[.agg #[.int .i64 a, .int .i64 b, .int .i64 c], .agg #[.int .i64 x, .int .i64 y, .int .i64 z], fvA] w fun e w' => e = .returned (.tuple #[.agg #[.int .i64 s0, .int .i64 s1, .int .i64 s2], .int .i64 q]) ∧ Below w.heap.size w w') :
    Calls Try.prog 58 #[.agg #[.int .i64 a, .int .i64 b, .int .i64 c], .agg #[.int .i64 x, .int .i64 y, .int .i64 z]] w fun e w' => e = .returned (.tuple #[.agg #[.int .i64 s0, .int .i64 s1, .int .i64 s2], .int .i64 q]) ∧ Below w.heap.size w w' := by
  unfold fvA at h
  have K0 := ((bx_new w [.int .i64 a, .int .i64 b, .int .i64 c] 30).alloc (.cells #[.int .i64 x, .int .i64 y, .int .i64 z] 30)).alloc (.cells #[.int .i64 0, .int .i64 0, .int .i64 0] 30)
  have K1 := (bx_at (w.alloc (.cells #[.int .i64 a, .int .i64 b, .int .i64 c] 30)) [.int .i64 x, .int .i64 y, .int .i64 z] 30 (n := w.heap.size + 1) (by simp)).alloc (.cells #[.int .i64 0, .int .i64 0, .int .i64 0] 30)
  have K2 := bx_at ((w.alloc (.cells #[.int .i64 a, .int .i64 b, .int .i64 c] 30)).alloc (.cells #[.int .i64 x, .int .i64 y, .int .i64 z] 30)) [.int .i64 0, .int .i64 0, .int .i64 0] 30 (n := w.heap.size + 1 + 1) (by simp)
  have B := ((below_new w (.cells #[.int .i64 a, .int .i64 b, .int .i64 c] 30)).alloc (by simp) (.cells #[.int .i64 x, .int .i64 y, .int .i64 z] 30)).alloc (by simp; omega) (.cells #[.int .i64 0, .int .i64 0, .int .i64 0] 30)
  have k00 := K0.cell (i := 0) rfl
  have k01 := K0.cell (i := 1) rfl
  have k02 := K0.cell (i := 2) rfl
  have k10 := K1.cell (i := 0) rfl
  have k11 := K1.cell (i := 1) rfl
  have k12 := K1.cell (i := 2) rfl
  have hp : w.heap.size ≤ w.heap.size + 1 + 1 := by omega
  go_enter Try.func58, Try.ntmps58
  go_wp2_with (fail)
  with_reducible refine (h _).mono ?_
  rintro e w1 ⟨rfl, NB⟩
  have B2 := below_step B NB B.size
  replace K2 := K2.below NB
  have g0 := K2.fr 0
  have g1 := K2.fr 1
  have g2 := K2.fr 2
  have k20 := K2.cell (i := 0) rfl
  have k21 := K2.cell (i := 1) rfl
  have k22 := K2.cell (i := 2) rfl
  have Z := ((K2.set 0 (.int .i64 s0)).set 1 (.int .i64 s1)).set 2 (.int .i64 s2)
  have z0 := Z.cell (i := 0) rfl
  have z1 := Z.cell (i := 1) rfl
  have z2 := Z.cell (i := 2) rfl
  clear k00 k01 k02 k10 k11 k12 K0 K1 K2 Z NB B h
  go_wp2
  exact bodyPost_ret (v := .tuple #[.agg #[.int .i64 s0, .int .i64 s1, .int .i64 s2], .int .i64 q]) (by simp [results, Try.results58, go_sem, z0, z1, z2]) rfl ⟨rfl, ((B2.setCell (p := ⟨w.heap.size + 1 + 1, 0, none⟩) hp _).setCell (p := ⟨w.heap.size + 1 + 1, 1, none⟩) hp _).setCell (p := ⟨w.heap.size + 1 + 1, 2, none⟩) hp _⟩
/-- what base.Add answers -/
theorem badd_any (a b c x y z : Int) (w : World) (r : Bool) (hr : (eB a x && eB b y && eB c z) = r) (s0 s1 s2 q : Int) (h0 : (if r = true then a + x else 0) = s0) (h1 : (if r = true then b + y else 0) = s1) (h2 : (if r = true then c + z else 0) = s2) (hq : (if r = true then (0 : Int) else 10) = q) :
    Calls Try.prog 58 #[.agg #[.int .i64 a, .int .i64 b, .int .i64 c], .agg #[.int .i64 x, .int .i64 y, .int .i64 z]] w fun e w' => e = .returned (.tuple #[.agg #[.int .i64 s0, .int .i64 s1, .int .i64 s2], .int .i64 q]) ∧ Below w.heap.size w w' := by
  refine badd_go a b c x y z s0 s1 s2 q w fun w => ?_
  cases r
  · obtain rfl : s0 = 0 := h0.symm
    obtain rfl : s1 = 0 := h1.symm
    obtain rfl : s2 = 0 := h2.symm
    obtain rfl : q = 10 := hq.symm
    exact each_bad a b c x y z w hr
  · obtain rfl : s0 = a + x := h0.symm
    obtain rfl : s1 = b + y := h1.symm
    obtain rfl : s2 = c + z := h2.symm
    obtain rfl : q = 0 := hq.symm
    simp only [Bool.and_eq_true] at hr
    exact each_3 a b c x y z w hr.1.1 hr.1.2 hr.2
/-- what is wrong with two rows together -/
def pstB (X Y U V : Nat → Int) (n : Nat) : Bool := (List.range n).all fun i => amtB (X i + U i) && amtB (Y i + V i)
theorem pst_bad (A B : Option Addr) (n c d : Nat) (X Y U V : Nat → Int) (w : World) (hA : Shs w A n X Y) (hB : Shs w B n U V) (hn : n ≤ 64) (h1 : ∀ i, i < n → (amtB (X i) && amtB (Y i)) = true) (h2 : ∀ i, i < n → (amtB (U i) && amtB (V i)) = true) (h : pstB X Y U V n = false) :
    Calls Try.prog 52 #[.slice A n c, .slice B n d] w fun e w' => e = .returned (.tuple #[.slice none 0 0, .int .i64 10]) ∧ Below w.heap.size w w' := by
  have q : ((n : Int) != (n : Int)) = false := by simp
  have K := bx_new w [.slice A n c, .slice B n d] 32
  have B1 := below_new w (.cells #[.slice A n c, .slice B n d] 32)
  have hM : RowsM (w.alloc (.cells #[.slice A n c, .slice B n d] 32)) (some ⟨w.heap.size, 0, none⟩) 2 (fun _ => n) (fun k i => if k = 0 then X i else U i) (fun k i => if k = 0 then Y i else V i) := fun _ => ⟨_, _, rfl, fun k hk => by
    rcases (show k = 0 ∨ k = 1 by omega) with rfl | rfl
    · exact ⟨A, c, K.cell rfl, hA.below B1⟩
    · exact ⟨B, d, K.cell rfl, hB.below B1⟩⟩
  have cS := sum_any n (some ⟨w.heap.size, 0, none⟩) 2 2 (fun _ => n) _ _ _ hM hn (by omega)
  have hE : firstE (smE n (fun _ => n) (fun k i => if k = 0 then X i else U i) (fun k i => if k = 0 then Y i else V i)) 2 = 10 := by
    have h0 : smE n (fun _ => n) (fun k i => if k = 0 then X i else U i) (fun k i => if k = 0 then Y i else V i) 0 = 0 := by
      unfold smE
      rw [if_pos rfl]
      refine first_of_zero fun i hi => ?_
      have := h1 i hi
      simp only [Bool.and_eq_true] at this
      unfold itE
      simp [smS, this.1, this.2]
    have h3 : firstE (itE (fun k i => if k = 0 then X i else U i) (fun k i => if k = 0 then Y i else V i) 1) n = 10 := by
      have key : ∀ m, m ≤ n → (firstE (itE (fun k i => if k = 0 then X i else U i) (fun k i => if k = 0 then Y i else V i) 1) m = 0 ∧ pstB X Y U V m = true) ∨ firstE (itE (fun k i => if k = 0 then X i else U i) (fun k i => if k = 0 then Y i else V i) 1) m = 10 := by
        intro m
        induction m with
        | zero => intro _; exact .inl ⟨rfl, rfl⟩
        | succ m ih =>
          intro hm
          rcases ih (by omega) with ⟨e, p⟩ | e
          · have := h2 m (by omega)
            simp only [Bool.and_eq_true] at this
            have e2 : firstE (itE (fun k i => if k = 0 then X i else U i) (fun k i => if k = 0 then Y i else V i) 1) (m + 1) = itE (fun k i => if k = 0 then X i else U i) (fun k i => if k = 0 then Y i else V i) 1 m := by
              show (if firstE _ m = 0 then _ else _) = _
              rw [if_pos e]
            have e3 : itE (fun k i => if k = 0 then X i else U i) (fun k i => if k = 0 then Y i else V i) 1 m = if (amtB (X m + U m) && amtB (Y m + V m)) = true then 0 else 10 := by
              unfold itE
              simp [smS, this.1, this.2]
            have e4 : pstB X Y U V (m + 1) = (pstB X Y U V m && (amtB (X m + U m) && amtB (Y m + V m))) := by
              unfold pstB; rw [List.range_succ, List.all_append]; simp
            cases hq : amtB (X m + U m) && amtB (Y m + V m)
            · exact .inr (by rw [e2, e3, hq]; rfl)
            · exact .inl ⟨by rw [e2, e3, hq]; rfl, by rw [e4, p, hq]; rfl⟩
          · refine .inr ?_
            show (if firstE _ m = 0 then _ else _) = _
            rw [if_neg (by rw [e]; decide)]
            exact e
      rcases key n (Nat.le_refl _) with ⟨_, p⟩ | e
      · rw [h] at p; cases p
      · exact e
    show (if firstE _ 1 = 0 then _ else _) = _
    have h01 : firstE (smE n (fun _ => n) (fun k i => if k = 0 then X i else U i) (fun k i => if k = 0 then Y i else V i)) 1 = 0 := first_succ rfl h0
    rw [if_pos h01]
    unfold smE
    rw [if_pos rfl]
    exact h3
  clear hM K h hA hB
  go_enter Try.func52, Try.ntmps52
  go_wp2_with (fail)
  with_reducible refine cS.mono ?_
  rintro e w1 ⟨_, hbad, hb⟩
  obtain rfl := hbad (by rw [hE]; decide)
  rw [hE]
  have B2 := below_step B1 hb B1.size
  clear hbad cS hE
  go_wp2
  go_ret2
  exact ⟨rfl, B2⟩
end Go.Proofs.Ytfnjhalpedccaaa
