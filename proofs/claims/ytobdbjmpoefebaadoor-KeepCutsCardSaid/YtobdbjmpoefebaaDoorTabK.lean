/- What the calls of keep answer of a choice: taxRate, Kept; and Pieces. -/
import Derived.Test.YtobdbjmpoefebaaDoorTabZ
namespace Go.Proofs.YtobdbjmpoefebaaDoor
open Go.RowKit Go.Sort
set_option linter.unusedVariables false
set_option linter.unusedSimpArgs false

def rateV (T : TB) (s b : Int) : Int × Int :=
  if limB s b = true then (T.L, 0) else if numbB s T.nS = false then (0, 81) else if numbB b (T.S s.toNat).n = false then (0, 3) else ((T.S s.toNat).R b.toNat, 0)
/-- are all bands of a choice there? -/
def allN (C : Nat → CB) (f : Nat → Int) : Nat → Bool
  | 0 => true
  | k + 1 => allN C f k && numbB (f k) (C k).b.n
def sumR (C : Nat → CB) (f : Nat → Int) : Nat → Int
  | 0 => 0
  | k + 1 => sumR C f k + (C k).b.R (f k).toNat
def keptV (T : TB) (s b : Int) (f : Nat → Int) (m : Nat) : Int × Int :=
  if T.chk = 0 then
    (if (rateV T s b).2 = 0 then (if m = T.nC then (if allN T.C f m = true then (10000 - (rateV T s b).1 - sumR T.C f m, 0) else (0, 3)) else (0, 3)) else (0, (rateV T s b).2))
  else (0, T.chk)
theorem allN_no {C : Nat → CB} {f : Nat → Int} {i n : Nat} (hi : i < n) (h : numbB (f i) (C i).b.n = false) : allN C f n = false := by
  obtain ⟨m, rfl⟩ : ∃ m, n = i + 1 + m := ⟨n - i - 1, by omega⟩
  induction m with
  | zero =>
    show (allN C f i && numbB (f i) (C i).b.n) = false
    rw [h]; simp
  | succ m ih =>
    have := ih (by omega)
    show (allN C f (i + 1 + m) && _) = false
    rw [this]; rfl
theorem numbB_yes {n m : Int} (h : numbB n m = true) : 0 ≤ n ∧ n < m := by simpa [numbB] using h
def Ri (w : World) (A : Option Addr) (m : Nat) (f : Nat → Int) : Prop := 0 < m → ∃ b o, A = some ⟨b, o, none⟩ ∧ ∀ i, i < m → w.cell? ⟨b, o + i, none⟩ = some (.int .i64 (f i))
theorem Ri.below {w w' : World} {A : Option Addr} {m : Nat} {f : Nat → Int} (h : Ri w A m f) (hb : Below w.heap.size w w') : Ri w' A m f := fun hm => by
  obtain ⟨b, o, hA, hc⟩ := h hm
  exact ⟨b, o, hA, fun i hi => cell_later hb (hc i hi)⟩
theorem rateV_bd {T : TB} (h : T.chk = 0) (s b : Int) : 0 ≤ (rateV T s b).1 ∧ (rateV T s b).1 ≤ 10000 := by
  have OK := tok_of h
  have l0 := OK.l0
  have l1 := OK.l1
  unfold rateV
  split
  · exact ⟨l0, l1⟩
  · split
    · exact ⟨Int.le_refl _, by show (0 : Int) ≤ 10000; omega⟩
    · split
      · exact ⟨Int.le_refl _, by show (0 : Int) ≤ 10000; omega⟩
      · rename_i h1 h2 h3
        have a := numbB_yes (by simpa using h2)
        have b := numbB_yes (by simpa using h3)
        exact (OK.s _ (by omega)).2.2.2.2.1 _ (by omega)
set_option maxHeartbeats 2000000 in
theorem taxrate_any (w : World) (T : TB) (h : Tm w T) (s b k : Int) (A : Option Addr) (m c : Nat) :
    Calls Tryd.prog 79 #[T.v, .agg #[.int .i64 s, .int .i64 b, .slice A m c, .int .i64 k]] w fun e w' => e = .returned (.tuple #[.int .i64 (rateV T s b).1, .int .i64 (rateV T s b).2]) ∧ Below w.heap.size w w' := by
  unfold rateV
  cases hl : limB s b
  · simp only [Bool.false_eq_true, if_false]
    cases hs : numbB s T.nS
    · simp only [if_true]
      have lm := fun w => limited_b s b k A m c false hl w
      have nb := fun w => numbered_b s T.nS false hs w
      clear hl hs
      obtain ⟨AS, nS, cS, AC, nC, cC, AK, nK, cK, L, W, S, C, K⟩ := T
      dsimp only [TB.v] at *
      have B0 := below_new w (.cells #[.slice AS nS cS, .slice AC nC cC, .slice AK nK cK, .int .i64 L, .int .i64 W] 26)
      have M0 := h.below B0
      obtain ⟨z0, z1, z2, z3, z4⟩ := cells5 w (.slice AS nS cS) (.slice AC nC cC) (.slice AK nK cK) (.int .i64 L) (.int .i64 W) 26
      have hq : w.heap.size < (w.alloc (.cells #[.slice AS nS cS, .slice AC nC cC, .slice AK nK cK, .int .i64 L, .int .i64 W] 26)).heap.size := by simp
      generalize hw1 : w.alloc (.cells #[.slice AS nS cS, .slice AC nC cC, .slice AK nK cK, .int .i64 L, .int .i64 W] 26) = w1 at *
      have D1 := C4.new w1 (.int .i64 s) (.int .i64 b) (.slice A m c) (.int .i64 k)
      have hN := below_new w1 (.cells #[.int .i64 s, .int .i64 b, .slice A m c, .int .i64 k] 39)
      have B1 := below_step B0 hN B0.size
      have M1 := M0.below hN
      replace z0 := cell_later hN z0
      replace z1 := cell_later hN z1
      replace z2 := cell_later hN z2
      replace z3 := cell_later hN z3
      replace z4 := cell_later hN z4
      generalize hw2 : w1.alloc (.cells #[.int .i64 s, .int .i64 b, .slice A m c, .int .i64 k] 39) = w2 at *
      have y0 := D1.c0
      have y1 := D1.c1
      have y2 := D1.c2
      have y3 := D1.c3
      generalize hqn : w1.heap.size = q at *
      clear h hN M0
      go_enter Tryd.func79, Tryd.ntmps79
      go_wp2_with (fail)
      refine (lm _).mono ?_
      rintro e w3 ⟨rfl, hb3⟩
      have B2 := below_step B1 hb3 B1.size
      replace z0 := cell_later hb3 z0
      replace z3 := cell_later hb3 z3
      have D2 := D1.below hb3
      replace y0 := D2.c0
      replace y1 := D2.c1
      go_wp2_with (fail)
      refine (nb _).mono ?_
      rintro e w' ⟨rfl, rfl⟩
      go_wp2
      go_ret2
      exact ⟨rfl, B2⟩
    · simp only [Bool.true_eq_false, if_false]
      have hsb := numbB_yes hs
      cases hn : numbB b (T.S s.toNat).n
      · simp only [if_true]
        have lm := fun w => limited_b s b k A m c false hl w
        have nb := fun w => numbered_b s T.nS true hs w
        have nc := fun w => numbered_b b (T.S s.toNat).n false hn w
        obtain ⟨i, rfl⟩ : ∃ i : Nat, s = i := ⟨s.toNat, by omega⟩
        rw [Int.toNat_natCast] at *
        obtain ⟨bb, oo, hAS, hcc⟩ := id (h.1 (show 0 < T.nS by omega))
        obtain ⟨g0, _⟩ := hcc i (by omega)
        clear hl hs hn hcc
        obtain ⟨AS, nS, cS, AC, nC, cC, AK, nK, cK, L, W, S, C, K⟩ := T
        dsimp only [TB.v] at *
        subst hAS
        generalize (S i).n = sn at *
        generalize (S i).A = sA at *
        generalize (S i).c = sc at *
        have B0 := below_new w (.cells #[.slice (some ⟨bb, oo, none⟩) nS cS, .slice AC nC cC, .slice AK nK cK, .int .i64 L, .int .i64 W] 26)
        have M0 := h.below B0
        obtain ⟨z0, z1, z2, z3, z4⟩ := cells5 w (.slice (some ⟨bb, oo, none⟩) nS cS) (.slice AC nC cC) (.slice AK nK cK) (.int .i64 L) (.int .i64 W) 26
        have hq : w.heap.size < (w.alloc (.cells #[.slice (some ⟨bb, oo, none⟩) nS cS, .slice AC nC cC, .slice AK nK cK, .int .i64 L, .int .i64 W] 26)).heap.size := by simp
        generalize hw1 : w.alloc (.cells #[.slice (some ⟨bb, oo, none⟩) nS cS, .slice AC nC cC, .slice AK nK cK, .int .i64 L, .int .i64 W] 26) = w1 at *
        have D1 := C4.new w1 (.int .i64 (i : Nat)) (.int .i64 b) (.slice A m c) (.int .i64 k)
        have hN := below_new w1 (.cells #[.int .i64 (i : Nat), .int .i64 b, .slice A m c, .int .i64 k] 39)
        have B1 := below_step B0 hN B0.size
        have M1 := M0.below hN
        replace z0 := cell_later hN z0
        replace z1 := cell_later hN z1
        replace z2 := cell_later hN z2
        replace z3 := cell_later hN z3
        replace z4 := cell_later hN z4
        generalize hw2 : w1.alloc (.cells #[.int .i64 (i : Nat), .int .i64 b, .slice A m c, .int .i64 k] 39) = w2 at *
        have y0 := D1.c0
        have y1 := D1.c1
        have y2 := D1.c2
        have y3 := D1.c3
        generalize hqn : w1.heap.size = q at *
        clear h hN M0
        go_enter Tryd.func79, Tryd.ntmps79
        go_wp2_with (fail)
        refine (lm _).mono ?_
        rintro e w3 ⟨rfl, hb3⟩
        have B2 := below_step B1 hb3 B1.size
        replace z0 := cell_later hb3 z0
        replace g0 := cell_later B2 g0
        have D2 := D1.below hb3
        replace y0 := D2.c0
        replace y1 := D2.c1
        go_wp2_with (fail)
        refine (nb _).mono ?_
        rintro e w' ⟨rfl, rfl⟩
        go_wp2_with (fail)
        refine (nc _).mono ?_
        rintro e w' ⟨rfl, rfl⟩
        go_wp2
        go_ret2
        exact ⟨rfl, B2⟩
      · simp only [Bool.true_eq_false, if_false]
        have hnb := numbB_yes hn
        have lm := fun w => limited_b s b k A m c false hl w
        have nb := fun w => numbered_b s T.nS true hs w
        have nc := fun w => numbered_b b (T.S s.toNat).n true hn w
        obtain ⟨i, rfl⟩ : ∃ i : Nat, s = i := ⟨s.toNat, by omega⟩
        obtain ⟨j, rfl⟩ : ∃ j : Nat, b = j := ⟨b.toNat, by omega⟩
        rw [Int.toNat_natCast] at *
        rw [Int.toNat_natCast]
        obtain ⟨bb, oo, hAS, hcc⟩ := id (h.1 (show 0 < T.nS by omega))
        obtain ⟨g0, hBd⟩ := hcc i (by omega)
        obtain ⟨b2, o2, hA2, hcb⟩ := id (hBd (show 0 < (T.S i).n by omega))
        obtain ⟨_, g1, _⟩ := hcb j (by omega)
        rw [hA2] at g0
        clear hl hs hn hcc hcb hBd hA2
        obtain ⟨AS, nS, cS, AC, nC, cC, AK, nK, cK, L, W, S, C, K⟩ := T
        dsimp only [TB.v] at *
        subst hAS
        generalize (S i).n = sn at *
        generalize (S i).R j = rj at *
        generalize (S i).c = sc at *
        have B0 := below_new w (.cells #[.slice (some ⟨bb, oo, none⟩) nS cS, .slice AC nC cC, .slice AK nK cK, .int .i64 L, .int .i64 W] 26)
        have M0 := h.below B0
        obtain ⟨z0, z1, z2, z3, z4⟩ := cells5 w (.slice (some ⟨bb, oo, none⟩) nS cS) (.slice AC nC cC) (.slice AK nK cK) (.int .i64 L) (.int .i64 W) 26
        have hq : w.heap.size < (w.alloc (.cells #[.slice (some ⟨bb, oo, none⟩) nS cS, .slice AC nC cC, .slice AK nK cK, .int .i64 L, .int .i64 W] 26)).heap.size := by simp
        generalize hw1 : w.alloc (.cells #[.slice (some ⟨bb, oo, none⟩) nS cS, .slice AC nC cC, .slice AK nK cK, .int .i64 L, .int .i64 W] 26) = w1 at *
        have D1 := C4.new w1 (.int .i64 (i : Nat)) (.int .i64 (j : Nat)) (.slice A m c) (.int .i64 k)
        have hN := below_new w1 (.cells #[.int .i64 (i : Nat), .int .i64 (j : Nat), .slice A m c, .int .i64 k] 39)
        have B1 := below_step B0 hN B0.size
        have M1 := M0.below hN
        replace z0 := cell_later hN z0
        replace z1 := cell_later hN z1
        replace z2 := cell_later hN z2
        replace z3 := cell_later hN z3
        replace z4 := cell_later hN z4
        generalize hw2 : w1.alloc (.cells #[.int .i64 (i : Nat), .int .i64 (j : Nat), .slice A m c, .int .i64 k] 39) = w2 at *
        have y0 := D1.c0
        have y1 := D1.c1
        have y2 := D1.c2
        have y3 := D1.c3
        generalize hqn : w1.heap.size = q at *
        clear h hN M0
        go_enter Tryd.func79, Tryd.ntmps79
        go_wp2_with (fail)
        refine (lm _).mono ?_
        rintro e w3 ⟨rfl, hb3⟩
        have B2 := below_step B1 hb3 B1.size
        replace z0 := cell_later hb3 z0
        replace g0 := cell_later B2 g0
        replace g1 := cell_later B2 g1
        have D2 := D1.below hb3
        replace y0 := D2.c0
        replace y1 := D2.c1
        go_wp2_with (fail)
        refine (nb _).mono ?_
        rintro e w' ⟨rfl, rfl⟩
        go_wp2_with (fail)
        refine (nc _).mono ?_
        rintro e w' ⟨rfl, rfl⟩
        go_wp2
        go_ret2
        exact ⟨rfl, B2⟩
  · simp only [if_true]
    have lm := fun w => limited_b s b k A m c true hl w
    clear hl
    obtain ⟨AS, nS, cS, AC, nC, cC, AK, nK, cK, L, W, S, C, K⟩ := T
    dsimp only [TB.v] at *
    have B0 := below_new w (.cells #[.slice AS nS cS, .slice AC nC cC, .slice AK nK cK, .int .i64 L, .int .i64 W] 26)
    have M0 := h.below B0
    obtain ⟨z0, z1, z2, z3, z4⟩ := cells5 w (.slice AS nS cS) (.slice AC nC cC) (.slice AK nK cK) (.int .i64 L) (.int .i64 W) 26
    have hq : w.heap.size < (w.alloc (.cells #[.slice AS nS cS, .slice AC nC cC, .slice AK nK cK, .int .i64 L, .int .i64 W] 26)).heap.size := by simp
    generalize hw1 : w.alloc (.cells #[.slice AS nS cS, .slice AC nC cC, .slice AK nK cK, .int .i64 L, .int .i64 W] 26) = w1 at *
    have D1 := C4.new w1 (.int .i64 s) (.int .i64 b) (.slice A m c) (.int .i64 k)
    have hN := below_new w1 (.cells #[.int .i64 s, .int .i64 b, .slice A m c, .int .i64 k] 39)
    have B1 := below_step B0 hN B0.size
    have M1 := M0.below hN
    replace z0 := cell_later hN z0
    replace z1 := cell_later hN z1
    replace z2 := cell_later hN z2
    replace z3 := cell_later hN z3
    replace z4 := cell_later hN z4
    generalize hw2 : w1.alloc (.cells #[.int .i64 s, .int .i64 b, .slice A m c, .int .i64 k] 39) = w2 at *
    have y0 := D1.c0
    have y1 := D1.c1
    have y2 := D1.c2
    have y3 := D1.c3
    generalize hqn : w1.heap.size = q at *
    clear h hN M0
    go_enter Tryd.func79, Tryd.ntmps79
    go_wp2_with (fail)
    refine (lm _).mono ?_
    rintro e w3 ⟨rfl, hb3⟩
    have B2 := below_step B1 hb3 B1.size
    replace z0 := cell_later hb3 z0
    replace z3 := cell_later hb3 z3
    have D2 := D1.below hb3
    replace y0 := D2.c0
    replace y1 := D2.c1
    go_wp2
    go_ret2
    exact ⟨rfl, B2⟩
end Go.Proofs.YtobdbjmpoefebaaDoor

