/- Merged: TaxB, TaxC. -/
import Derived.Test.YtffihnbpjcgicaaDoorTaxA
import Derived.Test.YtffihnbpjcgicaaDoorBandE
import Derived.Maps.AppendAt
import Derived.Test.YtffihnbpjcgicaaDoorPerF
import Derived.Test.YtffihnbpjcgicaaDoorMoneyB
/- What tax.Due, tax.Rate and tax.Corners answer, of tables that may be. -/
namespace Go.Proofs.YtffihnbpjcgicaaDoor
open Go.RowKit Go.Sort
set_option linter.unusedVariables false
set_option linter.unusedSimpArgs false

/-- what is known of a table that may be, and of its way of rounding -/
structure TG (T : TB) : Prop where
  ok : TOk T
  w : modeB T.W = true
  z : Szs T
theorem tg_of {T : TB} (h : T.chk = 0) : TG T := by
  have ok := tok_of h
  refine ⟨ok, ?_, by have := ok.s8; omega, fun i hi => by have := (ok.s i hi).2.1; omega⟩
  unfold TB.chk chkT at h
  split at h
  · rename_i hh
    unfold headE at hh
    split at hh
    · split at hh
      · assumption
      · omega
    · omega
  · rename_i hh; exact absurd h hh
theorem exactT_bd {T : TB} (hT : TOk T) (s k a f y n d : Int) : 0 ≤ (exactT T s k a f y n d).1 ∧ (exactT T s k a f y n d).1 ≤ 1000000000000000 := by
  unfold exactT
  split
  · exact ⟨Int.le_refl _, by show (0 : Int) ≤ _; omega⟩
  · rename_i h1
    split
    · exact ⟨Int.le_refl _, by show (0 : Int) ≤ _; omega⟩
    · rename_i h2
      have rg := chargeV_rng (by simpa using h2)
      exact refE_bd hT (fitsV_zero (by simpa using h1)) rg.2.1 rg.2.2.2.1 rg.2.2.1 chargeV_bd.1 chargeV_bd.2
theorem due_tab (T : TB) (s k a f : Int) (x : Bool) (y n d : Int) (w : World) (h : SchM w T.AS T.nS T.S) (hT : TG T) (ha : -9223372036854775808 ≤ a) (ha2 : a ≤ 9223372036854775807) :
    Calls Tryd.prog 109 #[.agg #[.slice T.AS T.nS T.cS, .slice T.AC T.nC T.cC, .slice T.AK T.nK T.cK, .int .i64 T.L, .int .i64 T.W], .agg #[.int .i64 s, .int .i64 k, .int .i64 a, .int .i64 f, .bool x], .int .i64 y, .int .i64 n, .int .i64 d] w fun e w' => e = .returned (.tuple #[.int .i64 (dueT T s k a f y n d).1, .int .i64 (dueT T s k a f y n d).2]) ∧ Below w.heap.size w w' := by
  have K1 : Bx ((w.alloc (.cells #[.slice T.AS T.nS T.cS, .slice T.AC T.nC T.cC, .slice T.AK T.nK T.cK, .int .i64 T.L, .int .i64 T.W] 71)).alloc (.cells #[.int .i64 s, .int .i64 k, .int .i64 a, .int .i64 f, .bool x] 83)) w.heap.size 71 [.slice T.AS T.nS T.cS, .slice T.AC T.nC T.cC, .slice T.AK T.nK T.cK, .int .i64 T.L, .int .i64 T.W] := (bx_new w [.slice T.AS T.nS T.cS, .slice T.AC T.nC T.cC, .slice T.AK T.nK T.cK, .int .i64 T.L, .int .i64 T.W] 71).alloc _
  have K2 : Bx ((w.alloc (.cells #[.slice T.AS T.nS T.cS, .slice T.AC T.nC T.cC, .slice T.AK T.nK T.cK, .int .i64 T.L, .int .i64 T.W] 71)).alloc (.cells #[.int .i64 s, .int .i64 k, .int .i64 a, .int .i64 f, .bool x] 83)) (w.heap.size + 1) 83 [.int .i64 s, .int .i64 k, .int .i64 a, .int .i64 f, .bool x] := bx_at _ [.int .i64 s, .int .i64 k, .int .i64 a, .int .i64 f, .bool x] 83 (by simp)
  have B : Below w.heap.size w ((w.alloc (.cells #[.slice T.AS T.nS T.cS, .slice T.AC T.nC T.cC, .slice T.AK T.nK T.cK, .int .i64 T.L, .int .i64 T.W] 71)).alloc (.cells #[.int .i64 s, .int .i64 k, .int .i64 a, .int .i64 f, .bool x] 83)) := ((Below.refl _ _).alloc (Nat.le_refl _) _).alloc (by simp) _
  have ex := fun w h => exact_tab T s k a f x y n d w h hT.z hT.ok ha ha2
  have bd := exactT_bd hT.ok s k a f y n d
  have co := fun w => coins_ok (exactT T s k a f y n d).1 T.W w (exB_mk (by omega) bd.2) hT.w
  have h2 := h.below (show Below w.heap.size w ((w.alloc (.cells #[.slice T.AS T.nS T.cS, .slice T.AC T.nC T.cC, .slice T.AK T.nK T.cK, .int .i64 T.L, .int .i64 T.W] 71)).alloc (.cells #[.int .i64 s, .int .i64 k, .int .i64 a, .int .i64 f, .bool x] 83)) from B)
  clear h hT bd
  unfold dueT
  by_cases he : (exactT T s k a f y n d).2 = 0
  · rw [if_neg (by simpa using he)]
    dsimp only
    rw [he] at ex
    generalize (exactT T s k a f y n d).1 = v at *
    generalize rnd v 10000 T.W = r at *
    clear he
    have t0 := K1.cell (i := 0) rfl
    have t1 := K1.cell (i := 1) rfl
    have t2 := K1.cell (i := 2) rfl
    have t3 := K1.cell (i := 3) rfl
    have t4 := K1.cell (i := 4) rfl
    have c0 := K2.cell (i := 0) rfl
    have c1 := K2.cell (i := 1) rfl
    have c2 := K2.cell (i := 2) rfl
    have c3 := K2.cell (i := 3) rfl
    have c4 := K2.cell (i := 4) rfl
    go_enter Tryd.func109, Tryd.ntmps109
    go_wp2_with (fail)
    with_reducible refine (ex _ h2).mono ?_
    rintro e w1 ⟨rfl, hb⟩
    have K1 := K1.below hb
    have B1 := below_step B hb B.size
    clear t0 t1 t2 t3 t4 c0 c1 c2 c3 c4
    have t0 := K1.cell (i := 0) rfl
    have t1 := K1.cell (i := 1) rfl
    have t2 := K1.cell (i := 2) rfl
    have t3 := K1.cell (i := 3) rfl
    have t4 := K1.cell (i := 4) rfl
    go_wp2_with (fail)
    with_reducible refine (co _).mono ?_
    rintro e w2 ⟨rfl, q, rfl⟩
    go_wp2
    go_ret2
    exact ⟨rfl, below_drewN B1 _⟩
  · rw [if_pos he]
    dsimp only
    have he1 : ((exactT T s k a f y n d).2 != 0) = true := by simpa using he
    clear co
    generalize (exactT T s k a f y n d).1 = v at *
    generalize (exactT T s k a f y n d).2 = E at *
    clear he
    have t0 := K1.cell (i := 0) rfl
    have t1 := K1.cell (i := 1) rfl
    have t2 := K1.cell (i := 2) rfl
    have t3 := K1.cell (i := 3) rfl
    have t4 := K1.cell (i := 4) rfl
    have c0 := K2.cell (i := 0) rfl
    have c1 := K2.cell (i := 1) rfl
    have c2 := K2.cell (i := 2) rfl
    have c3 := K2.cell (i := 3) rfl
    have c4 := K2.cell (i := 4) rfl
    go_enter Tryd.func109, Tryd.ntmps109
    go_wp2_with (fail)
    with_reducible refine (ex _ h2).mono ?_
    rintro e w1 ⟨rfl, hb⟩
    have B1 := below_step B hb B.size
    go_wp2
    go_ret2
    exact ⟨rfl, B1⟩
/-- the rate of the next coin, or why there is none -/
def rateT (T : TB) (s k a f y n d : Int) : Int × Int :=
  if (exactT T s k a f y n d).2 ≠ 0 then (0, (exactT T s k a f y n d).2)
  else if (exactT T s k a f (y + 1) n d).2 ≠ 0 then (0, (exactT T s k a f (y + 1) n d).2)
  else ((exactT T s k a f (y + 1) n d).1 - (exactT T s k a f y n d).1, 0)
theorem exactT_amt {T : TB} {s k a f y n d : Int} (h : (exactT T s k a f y n d).2 = 0) : amtB y = true := by
  unfold exactT at h
  split at h
  · rename_i h1; exact absurd h h1
  · split at h
    · rename_i h1; exact absurd h h1
    · rename_i h1
      have h1 : (chargeV s k a f y n d).2 = 0 := by simpa using h1
      cases hy : amtB y
      · exfalso
        unfold chargeV at h1
        rw [hy] at h1
        split at h1
        · rename_i h2; exact absurd h1 h2
        · exact absurd h1 (by simp)
      · rfl
/-- a row of numbers of a call's own -/
abbrev Iw (w : World) (B : Nat) (v : Value) (l : List Int) : Prop := w.ownsRow B 2 1 v l.length (iv l)
/-- where the rate may change -/
def cornV (L : List Bd) (p : Int) (i : Nat) : List Int := p :: ((crn (gF L) L.length).take i).map fun q => p + q
def cornL (T : TB) (s k a f n d : Int) : List Int := if k = 4 then [] else cornV (taxL (T.S s.toNat) k f n d) (freeV s k a f n d).1 (crn (gF (taxL (T.S s.toNat) k f n d)) (taxL (T.S s.toNat) k f n d).length).length
theorem cornV_succ (L : List Bd) (p : Int) (i : Nat) (q : Int) (h : (crn (gF L) L.length)[i]? = some q) : cornV L p (i + 1) = cornV L p i ++ [p + q] := by
  unfold cornV
  rw [List.take_add_one, h]
  simp
theorem iw_cell {w : World} {B : Nat} {v : Value} {l : List Int} (h : Iw w B v l) : (l = [] ∧ v = .slice none 0 0) ∨ ∃ g cap, v = .slice (some ⟨g, 0, none⟩) l.length cap ∧ B ≤ g ∧ l.length ≤ cap ∧ ∀ i x, l[i]? = some x → w.cell? ⟨g, i, none⟩ = some (.int .i64 x) := by
  rcases h.2 with ⟨h1, h0⟩ | ⟨g, cap, cur, hv, hg, hh, h5, _⟩
  · exact .inl ⟨List.length_eq_zero_iff.1 h0, h1⟩
  · refine .inr ⟨g, cap, hv, hg, h5, fun i x hi => ?_⟩
    have := h.cells (g := g) (by rw [hv]; rfl) i (.int .i64 x) (by simp [iv, hi])
    rwa [Go.WideShapes.add_plain, Nat.zero_add] at this
/-- what the walk of the corners holds -/
def CorI (w : World) (h4 h5 : Nat) (A5 : Option Addr) (m c5 : Nat) (L : List Bd) (p : Int) (i : Nat) (u : Value) (X : World) : Prop :=
  Iw X w.heap.size u (cornV L p i) ∧ Iw X h4 (.slice A5 m c5) (crn (gF L) L.length) ∧ (∀ k, u.ownBlock = some k → k < h4 ∨ h5 ≤ k) ∧ Below w.heap.size w X ∧ h5 ≤ X.heap.size
theorem crn_get (F : Nat → Int) {n i : Nat} (h : i + 1 < n) : (crn F n)[i]? = some (F (i + 1)) := by
  simp [crn, List.getElem?_map, List.getElem?_range (show i < n - 1 by omega)]
/-- tax.Corners of tables that may be -/
def cornT (T : TB) (s k a f n d : Int) : List Int × Int :=
  if fitsV T s k a f ≠ 0 then ([], fitsV T s k a f) else if (freeV s k a f n d).2 ≠ 0 then ([], (freeV s k a f n d).2) else (cornL T s k a f n d, 0)
theorem freeV_rng {s k a f n d : Int} (h : (freeV s k a f n d).2 = 0) : 0 ≤ n ∧ n ≤ d ∧ 1 ≤ d ∧ d ≤ 1048576 := by
  unfold freeV at h
  split at h
  · rename_i h2; exact absurd h h2
  · split at h
    · exact absurd h (by simp)
    · omega
end Go.Proofs.YtffihnbpjcgicaaDoor

/- What tax.Next and tax.Year answer, of tables that may be, over a year in memory. -/
namespace Go.Proofs.YtffihnbpjcgicaaDoor
open Go.RowKit Go.Sort
set_option linter.unusedVariables false
set_option linter.unusedSimpArgs false

/-- a period: its code, and what is taxable -/
structure St where
  s : Int
  k : Int
  a : Int
  f : Int
  x : Bool
  y : Int
def St.F (g : St) : Prop := (-9223372036854775808 ≤ g.a ∧ g.a ≤ 9223372036854775807) ∧ (-9223372036854775808 ≤ g.y ∧ g.y ≤ 9223372036854775807)
def addV (a b : Int) : Int × Int := if (amtB a && amtB b && amtB (a + b)) = true then (a + b, 0) else (0, 10)
theorem add_any (a b : Int) (w : World) : Calls Tryd.prog 44 #[.int .i64 a, .int .i64 b] w fun e w' => e = .returned (.tuple #[.int .i64 (addV a b).1, .int .i64 (addV a b).2]) ∧ Below w.heap.size w w' := by
  unfold addV
  cases h : (amtB a && amtB b && amtB (a + b))
  · exact add_bad a b w h
  · obtain ⟨h1, h2⟩ : (amtB a && amtB b) = true ∧ amtB (a + b) = true := by simpa only [Bool.and_eq_true] using h
    exact add_ok a b w h1 h2
/-- how much is due by the end of a period of a year of so many periods, c in all -/
def nextT (nm c : Int) (T : TB) (g : St) (i Y A : Int) : Int × Int :=
  if i < 1 ∨ c < i then (0, 1)
  else if g.x = false then dueT T g.s g.k g.a g.f Y (min i nm) nm
  else if (dueT T g.s g.k g.a g.f g.y 1 nm).2 ≠ 0 then (0, (dueT T g.s g.k g.a g.f g.y 1 nm).2)
  else addV A (dueT T g.s g.k g.a g.f g.y 1 nm).1
theorem next_out {nm c : Int} {T : TB} {g : St} {i Y A : Int} (h : i < 1 ∨ c < i) : nextT nm c T g i Y A = (0, 1) := by unfold nextT; rw [if_pos h]
theorem next_all {nm c : Int} {T : TB} {g : St} {i Y A : Int} (h : ¬ (i < 1 ∨ c < i)) (hx : g.x = false) : nextT nm c T g i Y A = dueT T g.s g.k g.a g.f Y (min i nm) nm := by unfold nextT; rw [if_neg h, if_pos hx]
theorem next_err {nm c : Int} {T : TB} {g : St} {i Y A : Int} (h : ¬ (i < 1 ∨ c < i)) (hx : g.x = true) (h2 : (dueT T g.s g.k g.a g.f g.y 1 nm).2 ≠ 0) : nextT nm c T g i Y A = (0, (dueT T g.s g.k g.a g.f g.y 1 nm).2) := by unfold nextT; rw [if_neg h, if_neg (by simp [hx]), if_pos h2]
theorem next_own {nm c : Int} {T : TB} {g : St} {i Y A : Int} (h : ¬ (i < 1 ∨ c < i)) (hx : g.x = true) (h2 : (dueT T g.s g.k g.a g.f g.y 1 nm).2 = 0) : nextT nm c T g i Y A = addV A (dueT T g.s g.k g.a g.f g.y 1 nm).1 := by unfold nextT; rw [if_neg h, if_neg (by simp [hx]), if_neg (by simpa using h2)]

theorem next_tab (T : TB) (g : St) (p : Nat) (q ym mm dm i Y A : Int) (w : World) (h : SchM w T.AS T.nS T.S) (hT : TG T) (hY : Yr w p q ym mm dm) (hy : yrB ym mm dm = true) (hq : 1 ≤ q) (hq' : q ≤ 4) (hg : g.F) :
    Calls Tryd.prog 76 #[.agg #[.slice T.AS T.nS T.cS, .slice T.AC T.nC T.cC, .slice T.AK T.nK T.cK, .int .i64 T.L, .int .i64 T.W], .pointer (some ⟨p, 0, none⟩), .int .i64 i, .agg #[.int .i64 g.s, .int .i64 g.k, .int .i64 g.a, .int .i64 g.f, .bool g.x, .int .i64 g.y], .int .i64 Y, .int .i64 A] w fun e w' => e = .returned (.tuple #[.int .i64 (nextT (nom q) (cnt q ym mm dm) T g i Y A).1, .int .i64 (nextT (nom q) (cnt q ym mm dm) T g i Y A).2]) ∧ Below w.heap.size w w' := by
  have K1 : Bx ((w.alloc (.cells #[.slice T.AS T.nS T.cS, .slice T.AC T.nC T.cC, .slice T.AK T.nK T.cK, .int .i64 T.L, .int .i64 T.W] 71)).alloc (.cells #[.int .i64 g.s, .int .i64 g.k, .int .i64 g.a, .int .i64 g.f, .bool g.x, .int .i64 g.y] 85)) w.heap.size 71 [.slice T.AS T.nS T.cS, .slice T.AC T.nC T.cC, .slice T.AK T.nK T.cK, .int .i64 T.L, .int .i64 T.W] := (bx_new w [.slice T.AS T.nS T.cS, .slice T.AC T.nC T.cC, .slice T.AK T.nK T.cK, .int .i64 T.L, .int .i64 T.W] 71).alloc _
  have K2 : Bx ((w.alloc (.cells #[.slice T.AS T.nS T.cS, .slice T.AC T.nC T.cC, .slice T.AK T.nK T.cK, .int .i64 T.L, .int .i64 T.W] 71)).alloc (.cells #[.int .i64 g.s, .int .i64 g.k, .int .i64 g.a, .int .i64 g.f, .bool g.x, .int .i64 g.y] 85)) (w.heap.size + 1) 85 [.int .i64 g.s, .int .i64 g.k, .int .i64 g.a, .int .i64 g.f, .bool g.x, .int .i64 g.y] := bx_at _ [.int .i64 g.s, .int .i64 g.k, .int .i64 g.a, .int .i64 g.f, .bool g.x, .int .i64 g.y] 85 (by simp)
  have B : Below w.heap.size w ((w.alloc (.cells #[.slice T.AS T.nS T.cS, .slice T.AC T.nC T.cC, .slice T.AK T.nK T.cK, .int .i64 T.L, .int .i64 T.W] 71)).alloc (.cells #[.int .i64 g.s, .int .i64 g.k, .int .i64 g.a, .int .i64 g.f, .bool g.x, .int .i64 g.y] 85)) := ((Below.refl _ _).alloc (Nat.le_refl _) _).alloc (by simp) _
  have h2 := h.below (show Below w.heap.size w ((w.alloc (.cells #[.slice T.AS T.nS T.cS, .slice T.AC T.nC T.cC, .slice T.AK T.nK T.cK, .int .i64 T.L, .int .i64 T.W] 71)).alloc (.cells #[.int .i64 g.s, .int .i64 g.k, .int .i64 g.a, .int .i64 g.f, .bool g.x, .int .i64 g.y] 85)) from B)
  have Y2 := hY.below (show Below w.heap.size w ((w.alloc (.cells #[.slice T.AS T.nS T.cS, .slice T.AC T.nC T.cC, .slice T.AK T.nK T.cK, .int .i64 T.L, .int .i64 T.W] 71)).alloc (.cells #[.int .i64 g.s, .int .i64 g.k, .int .i64 g.a, .int .i64 g.f, .bool g.x, .int .i64 g.y] 85)) from B)
  clear h hY
  by_cases ho : i < 1 ∨ cnt q ym mm dm < i
  · rw [next_out ho]
    have pt := fun W Yw => part_no p q ym mm dm i W Yw hy hq hq' ho
    clear ho
    go_enter Tryd.func76, Tryd.ntmps76
    go_wp2_with (fail)
    with_reducible refine (pt _ Y2).mono ?_
    rintro e w1 ⟨rfl, hb⟩
    have B1 := below_step B hb B.size
    go_wp2
    go_ret2
    exact ⟨rfl, B1⟩
  · have pt := fun W Yw => part_yes p q ym mm dm i W Yw hy hq hq' (by omega) (by omega)
    generalize cnt q ym mm dm = c at *
    generalize nom q = nm at *
    generalize hx : g.x = x at *
    cases x
    · rw [next_all ho hx]
      have du := fun w h => due_tab T g.s g.k g.a g.f false Y (min i nm) nm w h hT hg.1.1 hg.1.2
      generalize (dueT T g.s g.k g.a g.f Y (min i nm) nm).1 = v at *
      generalize (dueT T g.s g.k g.a g.f Y (min i nm) nm).2 = E at *
      generalize min i nm = n at *
      clear ho hT hg hx
      go_enter Tryd.func76, Tryd.ntmps76
      go_wp2_with (fail)
      with_reducible refine (pt _ Y2).mono ?_
      rintro e w1 ⟨rfl, hb⟩
      have K1 := K1.below hb
      have K2 := K2.below hb
      have h3 := h2.below hb
      have B1 := below_step B hb B.size
      have t0 := K1.cell (i := 0) rfl
      have t1 := K1.cell (i := 1) rfl
      have t2 := K1.cell (i := 2) rfl
      have t3 := K1.cell (i := 3) rfl
      have t4 := K1.cell (i := 4) rfl
      have c0 := K2.cell (i := 0) rfl
      have c1 := K2.cell (i := 1) rfl
      have c2 := K2.cell (i := 2) rfl
      have c3 := K2.cell (i := 3) rfl
      have c4 := K2.cell (i := 4) rfl
      have c5 := K2.cell (i := 5) rfl
      go_wp2_with (fail)
      with_reducible refine (du _ h3).mono ?_
      rintro e w2 ⟨rfl, hb⟩
      have B2 := below_step B1 hb B1.size
      go_wp2
      go_ret2
      exact ⟨rfl, B2⟩
    · have du := fun w h => due_tab T g.s g.k g.a g.f true g.y 1 nm w h hT hg.1.1 hg.1.2
      by_cases he : (dueT T g.s g.k g.a g.f g.y 1 nm).2 = 0
      · rw [next_own ho hx he]
        rw [he] at du
        have ad := fun w => add_any A (dueT T g.s g.k g.a g.f g.y 1 nm).1 w
        generalize (dueT T g.s g.k g.a g.f g.y 1 nm).1 = v at *
        generalize (addV A v).1 = u at *
        generalize (addV A v).2 = E at *
        generalize min i nm = n at *
        clear ho hT hg hx he
        go_enter Tryd.func76, Tryd.ntmps76
        go_wp2_with (fail)
        with_reducible refine (pt _ Y2).mono ?_
        rintro e w1 ⟨rfl, hb⟩
        have K1 := K1.below hb
        have K2 := K2.below hb
        have h3 := h2.below hb
        have B1 := below_step B hb B.size
        have t0 := K1.cell (i := 0) rfl
        have t1 := K1.cell (i := 1) rfl
        have t2 := K1.cell (i := 2) rfl
        have t3 := K1.cell (i := 3) rfl
        have t4 := K1.cell (i := 4) rfl
        have c0 := K2.cell (i := 0) rfl
        have c1 := K2.cell (i := 1) rfl
        have c2 := K2.cell (i := 2) rfl
        have c3 := K2.cell (i := 3) rfl
        have c4 := K2.cell (i := 4) rfl
        have c5 := K2.cell (i := 5) rfl
        go_wp2_with (fail)
        with_reducible refine (du _ h3).mono ?_
        rintro e w2 ⟨rfl, hb⟩
        have B2 := below_step B1 hb B1.size
        go_wp2_with (fail)
        with_reducible refine (ad _).mono ?_
        rintro e w3 ⟨rfl, hb⟩
        have B3 := below_step B2 hb B2.size
        go_wp2
        go_ret2
        exact ⟨rfl, B3⟩
      · rw [next_err ho hx he]
        have he1 : ((dueT T g.s g.k g.a g.f g.y 1 nm).2 != 0) = true := by simpa using he
        generalize (dueT T g.s g.k g.a g.f g.y 1 nm).1 = v at *
        generalize (dueT T g.s g.k g.a g.f g.y 1 nm).2 = E at *
        generalize min i nm = n at *
        clear ho hT hg hx he
        go_enter Tryd.func76, Tryd.ntmps76
        go_wp2_with (fail)
        with_reducible refine (pt _ Y2).mono ?_
        rintro e w1 ⟨rfl, hb⟩
        have K1 := K1.below hb
        have K2 := K2.below hb
        have h3 := h2.below hb
        have B1 := below_step B hb B.size
        have t0 := K1.cell (i := 0) rfl
        have t1 := K1.cell (i := 1) rfl
        have t2 := K1.cell (i := 2) rfl
        have t3 := K1.cell (i := 3) rfl
        have t4 := K1.cell (i := 4) rfl
        have c0 := K2.cell (i := 0) rfl
        have c1 := K2.cell (i := 1) rfl
        have c2 := K2.cell (i := 2) rfl
        have c3 := K2.cell (i := 3) rfl
        have c4 := K2.cell (i := 4) rfl
        have c5 := K2.cell (i := 5) rfl
        go_wp2_with (fail)
        with_reducible refine (du _ h3).mono ?_
        rintro e w2 ⟨rfl, hb⟩
        have B2 := below_step B1 hb B1.size
        go_wp2
        go_ret2
        exact ⟨rfl, B2⟩

/-- periods in memory -/
def Sts (W : World) (A : Option Addr) (n : Nat) (g : Nat → St) : Prop := 0 < n → ∃ b o, A = some ⟨b, o, none⟩ ∧ ∀ i, i < n →
  W.cell? ⟨b, o + i * 6, none⟩ = some (.int .i64 (g i).s) ∧ W.cell? ⟨b, o + i * 6 + 1, none⟩ = some (.int .i64 (g i).k) ∧ W.cell? ⟨b, o + i * 6 + 2, none⟩ = some (.int .i64 (g i).a) ∧
  W.cell? ⟨b, o + i * 6 + 3, none⟩ = some (.int .i64 (g i).f) ∧ W.cell? ⟨b, o + i * 6 + 4, none⟩ = some (.bool (g i).x) ∧ W.cell? ⟨b, o + i * 6 + 5, none⟩ = some (.int .i64 (g i).y)
theorem Sts.below {W W' : World} {A : Option Addr} {n : Nat} {g : Nat → St} (h : Sts W A n g) (hb : Below W.heap.size W W') : Sts W' A n g := fun h0 => by
  obtain ⟨b, o, hA, hc⟩ := h h0
  exact ⟨b, o, hA, fun i hi => by
    obtain ⟨c0, c1, c2, c3, c4, c5⟩ := hc i hi
    exact ⟨cell_later hb c0, cell_later hb c1, cell_later hb c2, cell_later hb c3, cell_later hb c4, cell_later hb c5⟩⟩
/-- what was taxable so far -/
def tyS (g : Nat → St) : Nat → Int
  | 0 => 0
  | i + 1 => tyS g i + (g i).y
/-- what is due by the end of so many periods -/
def tyD (nm c : Int) (T : TB) (g : Nat → St) : Nat → Int
  | 0 => 0
  | i + 1 => (nextT nm c T (g i) ((i : Int) + 1) (tyS g (i + 1)) (tyD nm c T g i)).1
/-- what is wrong with a period -/
def tyE (nm c : Int) (T : TB) (g : Nat → St) (i : Nat) : Int :=
  if (addV (tyS g i) (g i).y).2 ≠ 0 then (addV (tyS g i) (g i).y).2 else (nextT nm c T (g i) ((i : Int) + 1) (tyS g (i + 1)) (tyD nm c T g i)).2
def tyL (nm c : Int) (T : TB) (g : Nat → St) (n : Nat) : List Int := (List.range n).map fun i => tyD nm c T g (i + 1)
theorem tyL_succ (nm c : Int) (T : TB) (g : Nat → St) (n : Nat) : tyL nm c T g (n + 1) = tyL nm c T g n ++ [tyD nm c T g (n + 1)] := by simp [tyL, List.range_succ]
theorem tyL_len (nm c : Int) (T : TB) (g : Nat → St) (n : Nat) : (tyL nm c T g n).length = n := by simp [tyL]
theorem addV_ok {a b : Int} (h : (addV a b).2 = 0) : (addV a b).1 = a + b ∧ amtB a = true ∧ amtB b = true ∧ amtB (a + b) = true := by
  unfold addV at h ⊢
  split at h
  · rename_i h1
    rw [if_pos h1]
    obtain ⟨⟨h1, h2⟩, h3⟩ : (amtB a = true ∧ amtB b = true) ∧ amtB (a + b) = true := by simpa only [Bool.and_eq_true] using h1
    exact ⟨rfl, h1, h2, h3⟩
  · exact absurd h (by simp)
/-- what tax.Year answers -/
def TyP (w w' : World) (nm c : Int) (T : TB) (g : Nat → St) (n : Nat) (e : Ending) : Prop :=
  (firstE (tyE nm c T g) n = 0 → ∃ v, e = .returned (.tuple #[v, .int .i64 0]) ∧ Iw w' w.heap.size v (tyL nm c T g n)) ∧
  (firstE (tyE nm c T g) n ≠ 0 → e = .returned (.tuple #[.slice none 0 0, .int .i64 (firstE (tyE nm c T g) n)])) ∧ Below w.heap.size w w'
theorem tyear_long (T : TB) (p : Nat) (q ym mm dm : Int) (A : Option Addr) (n c : Nat) (w : World) (hY : Yr w p q ym mm dm) (hy : yrB ym mm dm = true) (hq : 1 ≤ q) (hq' : q ≤ 4) (hn : cnt q ym mm dm < n) :
    Calls Tryd.prog 33 #[.agg #[.slice T.AS T.nS T.cS, .slice T.AC T.nC T.cC, .slice T.AK T.nK T.cK, .int .i64 T.L, .int .i64 T.W], .pointer (some ⟨p, 0, none⟩), .slice A n c] w fun e w' => e = .returned (.tuple #[.slice none 0 0, .int .i64 1]) ∧ Below w.heap.size w w' := by
  have N := (Below.refl w.heap.size w).alloc (Nat.le_refl _) (.cells #[.slice T.AS T.nS T.cS, .slice T.AC T.nC T.cC, .slice T.AK T.nK T.cK, .int .i64 T.L, .int .i64 T.W] 71)
  have co := count_any p q ym mm dm _ (hY.below N) hy hq hq'
  have hn1 : decide (cnt q ym mm dm < (n : Int)) = true := by simpa using hn
  generalize cnt q ym mm dm = cn at *
  clear hY hn
  go_enter Tryd.func33, Tryd.ntmps33
  go_wp2_with (fail)
  with_reducible refine co.mono ?_
  rintro e w1 ⟨rfl, hb⟩
  have B1 := below_step N hb N.size
  go_wp2
  go_ret2
  exact ⟨rfl, B1⟩
theorem own_mono_i {w : World} {B B' : Nat} {e : TypeId} {size n : Nat} {v : Value} {xs : List Value} (h : w.ownsRow B e size v n xs) (hB : B' ≤ B) : w.ownsRow B' e size v n xs := by
  obtain ⟨hl, h | ⟨g, cap, cur, hv, hg, hh, h1, h2, h3, h4⟩⟩ := h
  · exact ⟨hl, .inl h⟩
  · exact ⟨hl, .inr ⟨g, cap, cur, hv, Nat.le_trans hB hg, hh, h1, h2, h3, h4⟩⟩
/-- what the walk of a year holds -/
def TyI (w : World) (T : TB) (p : Nat) (q ym mm dm : Int) (A : Option Addr) (n : Nat) (g : Nat → St) (l : List Int) (u : Value) (X : World) : Prop :=
  Bx X w.heap.size 71 [.slice T.AS T.nS T.cS, .slice T.AC T.nC T.cC, .slice T.AK T.nK T.cK, .int .i64 T.L, .int .i64 T.W] ∧ Iw X (w.heap.size + 1) u l ∧ Below w.heap.size w X
set_option maxHeartbeats 4000000 in
theorem tyear_tab (T : TB) (p : Nat) (q ym mm dm : Int) (A : Option Addr) (n c : Nat) (g : Nat → St) (w : World) (h : SchM w T.AS T.nS T.S) (hT : TG T) (hY : Yr w p q ym mm dm) (hy : yrB ym mm dm = true) (hq : 1 ≤ q) (hq' : q ≤ 4) (hA : Sts w A n g) (hg : ∀ i, i < n → (g i).F) (hn : (n : Int) ≤ cnt q ym mm dm) (hn2 : n ≤ 100000) :
    Calls Tryd.prog 33 #[.agg #[.slice T.AS T.nS T.cS, .slice T.AC T.nC T.cC, .slice T.AK T.nK T.cK, .int .i64 T.L, .int .i64 T.W], .pointer (some ⟨p, 0, none⟩), .slice A n c] w fun e w' => TyP w w' (nom q) (cnt q ym mm dm) T g n e := by
  obtain ⟨i0, hi0, hz0, hz1, hz2⟩ := info_parts info2
  have Hi := Lib.hid hi0
  have Hz := Lib.hid hz0
  have N := (Below.refl w.heap.size w).alloc (Nat.le_refl _) (.cells #[.slice T.AS T.nS T.cS, .slice T.AC T.nC T.cC, .slice T.AK T.nK T.cK, .int .i64 T.L, .int .i64 T.W] 71)
  have K := bx_new w [.slice T.AS T.nS T.cS, .slice T.AC T.nC T.cC, .slice T.AK T.nK T.cK, .int .i64 T.L, .int .i64 T.W] 71
  have co := count_any p q ym mm dm _ (hY.below N) hy hq hq'
  have hn1 : decide (cnt q ym mm dm < (n : Int)) = false := by simp; omega
  have nx := fun (i : Nat) (hi : i < n) w h Yw Y A => next_tab T (g i) p q ym mm dm ((i : Int) + 1) Y A w h hT Yw hy hq hq' (hg i hi)
  generalize cnt q ym mm dm = cn at *
  generalize nom q = nm at *
  have HG := Lib.hid hg
  clear hg hT hi0 hz0
  go_enter Tryd.func33, Tryd.ntmps33
  go_wp2_with (fail)
  with_reducible refine co.mono ?_
  rintro e w1 ⟨rfl, hb⟩
  have K := K.below hb
  have B1 := below_step N hb N.size
  have hs1 : w.heap.size + 1 ≤ w1.heap.size := K.lt
  clear hb N co
  go_wp2
  go_loopw [8, 9, 10, 21] (fun u s d j X => ∃ i : Nat, i ≤ n ∧ j = .int .i64 i ∧ s = .int .i64 (tyS g i) ∧ d = .int .i64 (tyD nm cn T g i) ∧ firstE (tyE nm cn T g) i = 0 ∧ TyI w T p q ym mm dm A n g (tyL nm cn T g i) u X) (fun _ _ _ j _ => n - (intOf j).toNat)
  case atStart => exact ⟨0, Nat.zero_le _, rfl, rfl, rfl, rfl, K, World.ownsRow_nil _ _ _ _, B1⟩
  case round =>
    clear K B1
    obtain ⟨i, hi, rfl, rfl, rfl, h0, K, O, B⟩ := hrel
    by_cases hlt : i < n
    · obtain ⟨b, o, rfl, hc⟩ := hA (by omega)
      obtain ⟨g0, g1, g2, g3, g4, g5⟩ := hc i hlt
      have d0 := cell_later B g0
      have d1 := cell_later B g1
      have d2 := cell_later B g2
      have d3 := cell_later B g3
      have d4 := cell_later B g4
      have d5 := cell_later B g5
      have N2 := (Below.refl wr.heap.size wr).alloc (Nat.le_refl _) (.cells #[.int .i64 (g i).s, .int .i64 (g i).k, .int .i64 (g i).a, .int .i64 (g i).f, .bool (g i).x, .int .i64 (g i).y] 85)
      have K2 := bx_new wr [.int .i64 (g i).s, .int .i64 (g i).k, .int .i64 (g i).a, .int .i64 (g i).f, .bool (g i).x, .int .i64 (g i).y] 85
      have ad := fun w => add_any (tyS g i) (g i).y w
      have B2 := below_step B N2 B.size
      have K1 := K.below N2
      have O2 := own_below O N2
      clear hc g0 g1 g2 g3 g4 g5 N2 K O B
      by_cases e1 : (addV (tyS g i) (g i).y).2 = 0
      · have es : (addV (tyS g i) (g i).y).1 = tyS g (i + 1) := (addV_ok e1).1
        have nx1 := fun w h Yw => nx i hlt w h Yw (tyS g (i + 1)) (tyD nm cn T g i)
        rw [e1, es] at ad
        have eE : tyE nm cn T g i = (nextT nm cn T (g i) ((i : Int) + 1) (tyS g (i + 1)) (tyD nm cn T g i)).2 := by unfold tyE; rw [if_neg (by simpa using e1)]
        have eD : tyD nm cn T g (i + 1) = (nextT nm cn T (g i) ((i : Int) + 1) (tyS g (i + 1)) (tyD nm cn T g i)).1 := rfl
        rw [← eE, ← eD] at nx1
        clear nx e1 es eE eD
        have c4 := K2.cell (i := 4) rfl
        have c5 := K2.cell (i := 5) rfl
        go_wp2_with (fail)
        generalize wr.alloc (.cells #[.int .i64 (g i).s, .int .i64 (g i).k, .int .i64 (g i).a, .int .i64 (g i).f, .bool (g i).x, .int .i64 (g i).y] 85) = w2 at *
        with_reducible refine (ad _).mono ?_
        rintro e w3 ⟨rfl, hb⟩
        have K1 := K1.below hb
        have K2 := K2.below hb
        have B3 := below_step B2 hb B2.size
        have O3 := own_below O2 hb
        have h3 := h.below B3
        have Y3 := hY.below B3
        clear hb B2 O2 c4 c5 ad d0 d1 d2 d3 d4 d5
        have t0 := K1.cell (i := 0) rfl
        have t1 := K1.cell (i := 1) rfl
        have t2 := K1.cell (i := 2) rfl
        have t3 := K1.cell (i := 3) rfl
        have t4 := K1.cell (i := 4) rfl
        have c0 := K2.cell (i := 0) rfl
        have c1 := K2.cell (i := 1) rfl
        have c2 := K2.cell (i := 2) rfl
        have c3 := K2.cell (i := 3) rfl
        have c4 := K2.cell (i := 4) rfl
        have c5 := K2.cell (i := 5) rfl
        go_wp2_with (fail)
        with_reducible refine (nx1 _ h3 Y3).mono ?_
        rintro e w4 ⟨rfl, hb⟩
        have K1 := K1.below hb
        have B4 := below_step B3 hb B3.size
        have O4 := own_below O3 hb
        clear hb B3 O3 nx1 h3 Y3 t0 t1 t2 t3 t4 c0 c1 c2 c3 c4 c5 K2
        by_cases e2 : tyE nm cn T g i = 0
        · have HF := Lib.hid (first_succ h0 e2)
          have HN := Lib.hid (tyL_succ nm cn T g i)
          have hlen := tyL_len nm cn T g i
          have HSu : Hid (tyS g (i + 1) = tyS g (i + 1)) := Lib.hid rfl
          rw [e2]
          generalize hD : tyD nm cn T g (i + 1) = D at *
          have HD := Lib.hid hD
          generalize hS : tyS g (i + 1) = S at *
          have HS := Lib.hid hS
          clear e2 h0 hS HSu hD
          have hc3 : (tyL nm cn T g i).length + 1 ≤ maxLen := by unfold maxLen; omega
          have hc4 : ((tyL nm cn T g i).length + 1) * 8 ≤ 140737488355328 := by omega
          clear hlen
          have hc1 := cell_one_new w4 (.int .i64 D) 2
          have hc2 : ∀ v ∈ [Value.int .i64 D], v.oneCell' = true := by simp [Value.oneCell']
          have hc5 : w.heap.size + 1 ≤ (w4.alloc (.cells #[.int .i64 D] 2)).heap.size := by have := K1.lt; simp; omega
          have hb2 := B4.alloc B4.size (Obj.cells #[.int .i64 D] 2)
          have K2 := K1.alloc (Obj.cells #[.int .i64 D] 2)
          have HO := Lib.hid O4
          clear O4 B4 K1
          go_wp2_with (at_builtin; refine wpList_append_own_at _ rfl _ _ 73 rfl (w.heap.size + 1) 2 i0 (.int .i64 0) 1 8 Tryd.underlying73 Hi.out Hz.out hz1 hz2 rfl (by decide) _ _ _ rfl (HO.out.alloc _) ⟨w4.heap.size, 0, none⟩ 1 1 [.int .i64 D] rfl rfl hc1 hc2 hc3 hc4 hc5 ?_; intro v' w5 hown2 hg2 _ hob2)
          have hb3 := hb2.grown hg2 hb2.size (fun k hk => by have := (HO.out.lt k hk).1; omega)
          have K3 : Bx w5 w.heap.size 71 [.slice T.AS T.nS T.cS, .slice T.AC T.nC T.cC, .slice T.AK T.nK T.cK, .int .i64 T.L, .int .i64 T.W] := K2.of_block (hg2.block _ K2.lt (fun e => by have := (HO.out.lt _ e.symm).1; omega))
          have hE : (tyL nm cn T g (i + 1)).length = (tyL nm cn T g i).length + 1 := by rw [HN.out]; simp
          have hown3 : Iw w5 (w.heap.size + 1) v' (tyL nm cn T g (i + 1)) := by
            show w5.ownsRow (w.heap.size + 1) 2 1 v' (tyL nm cn T g (i + 1)).length (iv (tyL nm cn T g (i + 1)))
            rw [hE, HN.out]
            simpa [iv] using hown2
          clear hown2 hg2 hE hob2 hb2 K2 hc1 hc2 hc3 hc4 hc5
          go_wp2
          go_roundw
          case rel => exact ⟨i + 1, by omega, by go_num, by rw [HS.out], by rw [HD.out], HF.out, ⟨K3, hown3, hb3⟩⟩
          case measure => first | omega | (simp [intOf]; omega)
        · have HF := Lib.hid (first_stop hlt h0 e2)
          have e3 : (tyE nm cn T g i != 0) = true := by simpa using e2
          have e4 := Lib.hid e2
          generalize tyE nm cn T g i = E at *
          clear e2 h0
          go_wp2
          go_ret2
          exact ⟨fun hz => absurd (HF.out.symm.trans hz) e4.out, fun _ => by rw [HF.out]; rfl, B4⟩
      · have e3 : ((addV (tyS g i) (g i).y).2 != 0) = true := by simpa using e1
        have eE : tyE nm cn T g i = (addV (tyS g i) (g i).y).2 := by unfold tyE; rw [if_pos e1]
        have HF := Lib.hid (first_stop hlt h0 (by rw [eE]; exact e1))
        rw [eE] at HF
        have e4 := Lib.hid e1
        generalize (addV (tyS g i) (g i).y).2 = E at *
        generalize (addV (tyS g i) (g i).y).1 = V at *
        clear e1 eE h0 nx
        have c5 := K2.cell (i := 5) rfl
        go_wp2_with (fail)
        generalize wr.alloc (.cells #[.int .i64 (g i).s, .int .i64 (g i).k, .int .i64 (g i).a, .int .i64 (g i).f, .bool (g i).x, .int .i64 (g i).y] 85) = w2 at *
        with_reducible refine (ad _).mono ?_
        rintro e w3 ⟨rfl, hb⟩
        have B3 := below_step B2 hb B2.size
        go_wp2
        go_ret2
        exact ⟨fun hz => absurd (HF.out.symm.trans hz) e4.out, fun _ => by rw [HF.out]; rfl, B3⟩
    · obtain rfl : i = n := by omega
      have HO := Lib.hid O
      have H0 := Lib.hid h0
      clear O h0 nx
      go_wp2
      go_ret2
      exact ⟨fun _ => ⟨_, rfl, own_mono_i HO.out (by omega)⟩, fun hz => absurd H0.out hz, B⟩
end Go.Proofs.YtffihnbpjcgicaaDoor
