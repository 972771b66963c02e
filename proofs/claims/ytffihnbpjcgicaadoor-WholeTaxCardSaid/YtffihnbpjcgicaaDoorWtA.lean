/- What the walk of WholeTax stands on: rows of periods of its own, and dues as a row. -/
import Derived.Test.YtffihnbpjcgicaaDoorTxP
import Derived.Test.YtffihnbpjcgicaaDoorLit
import Derived.Test.YtffihnbpjcgicaaDoorTyA
namespace Go.Proofs.YtffihnbpjcgicaaDoor
open Go.RowKit Go.Sort
set_option linter.unusedVariables false
set_option linter.unusedSimpArgs false

theorem own_len' {w : World} {B n size : Nat} {e : TypeId} {v : Value} {xs : List Value} (h : w.ownsRow B e size v n xs) : ∃ A c, v = .slice A n c ∧ (∀ p, A = some p → ∃ g, p = ⟨g, 0, none⟩ ∧ B ≤ g ∧ g < w.heap.size) ∧ (0 < n → ∃ g, A = some ⟨g, 0, none⟩) := by
  rcases h.2 with ⟨hv, h0⟩ | ⟨g, cap, cur, hv, hg, hh, _⟩
  · exact ⟨none, 0, by rw [h0]; exact hv, fun p hp => (nomatch hp), fun h => absurd h (by omega)⟩
  · exact ⟨_, _, hv, fun p hp => ⟨g, by simpa using hp.symm, hg, (Array.getElem?_eq_some_iff.1 hh).1⟩, fun _ => ⟨g, rfl⟩⟩
theorem own_cells' {w : World} {B n size : Nat} {e : TypeId} {g c : Nat} {xs : List Value} (h : w.ownsRow B e size (.slice (some ⟨g, 0, none⟩) n c) n xs) {j : Nat} {u : Value} (hu : xs[j]? = some u) : w.cell? ⟨g, j, none⟩ = some u := by
  have := h.cells (g := g) rfl j u hu
  rwa [Go.WideShapes.add_plain, Nat.zero_add] at this
theorem iw_row {w : World} {B n : Nat} {A : Option Addr} {c : Nat} {l : List Int} {F : Nat → Int} (h : w.ownsRow B 2 1 (.slice A n c) n (iv l)) (hl : ∀ j, j < n → l[j]? = some (F j)) : rowAt w A n fun j => .int .i64 (F j) := fun hn => by
  obtain ⟨A', c', e, hA, hg⟩ := own_len' h
  obtain ⟨g, rfl⟩ := hg hn
  obtain ⟨rfl, _, rfl⟩ := Value.slice.inj e
  refine ⟨g, 0, rfl, fun i hi => ?_⟩
  rw [Nat.zero_add]
  exact own_cells' h (by simp [iv, hl i hi])
theorem row_later {w w' : World} {A : Option Addr} {n : Nat} {g : Nat → Value} (h : rowAt w A n g) (hb : Below w.heap.size w w') : rowAt w' A n g := fun h0 => by
  obtain ⟨b, o, hA, hc⟩ := h h0
  exact ⟨b, o, hA, fun i hi => cell_later hb (hc i hi)⟩
/-- what tax.Year tells, whether it tells or refuses -/
theorem typ_both {w w' : World} {nm c : Int} {T : TB} {g : Nat → St} {n : Nat} {e : Ending} (h : TyP w w' nm c T g n e) : ∃ v x, e = .returned (.tuple #[v, .int .i64 x]) ∧ (firstE (tyE nm c T g) n = 0 → x = 0 ∧ Iw w' w.heap.size v (tyL nm c T g n)) ∧ (firstE (tyE nm c T g) n ≠ 0 → v = .slice none 0 0 ∧ x = firstE (tyE nm c T g) n) ∧ Below w.heap.size w w' := by
  obtain ⟨h1, h2, h3⟩ := h
  by_cases h0 : firstE (tyE nm c T g) n = 0
  · obtain ⟨v, rfl, hv⟩ := h1 h0
    exact ⟨v, 0, rfl, fun _ => ⟨rfl, hv⟩, fun h => absurd h0 h, h3⟩
  · exact ⟨_, _, h2 h0, fun h => absurd h h0, fun _ => ⟨rfl, rfl⟩, h3⟩
theorem infoPy : (Tryd.prog.info? 91).map (fun i => (i.zero, i.size, i.bytes)) = some (some (.agg #[.int .i64 0, .int .i64 0, .bool false]), 3, 24) := by kernel_rfl
/-- periods, cell by cell -/
def pyC (x : Hd.Py) : List Value := [.int .i64 x.c, .int .i64 x.D, .bool x.b]
def pyL (f : Nat → Hd.Py) : Nat → List Value
  | 0 => []
  | n + 1 => pyL f n ++ pyC (f n)
theorem pyL_len (f : Nat → Hd.Py) (n : Nat) : (pyL f n).length = n * 3 := by
  induction n with
  | zero => rfl
  | succ n ih => simp [pyL, pyC, ih]; omega
theorem pyL_get (f : Nat → Hd.Py) {n i j : Nat} (hi : i < n) (hj : j < 3) : (pyL f n)[i * 3 + j]? = (pyC (f i))[j]? := by
  induction n with
  | zero => omega
  | succ n ih =>
    show (pyL f n ++ pyC (f n))[i * 3 + j]? = _
    by_cases h : i < n
    · rw [List.getElem?_append_left (by rw [pyL_len]; omega)]; exact ih h
    · obtain rfl : i = n := by omega
      rw [List.getElem?_append_right (by rw [pyL_len]; omega), pyL_len, show i * 3 + j - i * 3 = j by omega]
/-- a row of the call's own is periods in memory -/
theorem pys_own {w : World} {B n : Nat} {e : TypeId} {A : Option Addr} {c : Nat} {f : Nat → Hd.Py} (h : w.ownsRow B e 3 (.slice A n c) n (pyL f n)) : Hd.Pys w A n f := fun hn => by
  obtain ⟨A', c', e, hA, hg⟩ := own_len' h
  obtain ⟨g, rfl⟩ := hg hn
  obtain ⟨rfl, _, rfl⟩ := Value.slice.inj e
  refine ⟨g, 0, rfl, fun i hi => ?_⟩
  rw [Nat.zero_add]
  exact ⟨own_cells' h ((pyL_get f hi (j := 0) (by omega)).trans rfl), own_cells' h ((pyL_get f hi (j := 1) (by omega)).trans rfl), own_cells' h ((pyL_get f hi (j := 2) (by omega)).trans rfl)⟩
theorem meas_step {N i : Nat} (h : i < N) : N - (intOf (Value.int .i64 ((i : Int) + 1))).toNat < N - (intOf (Value.int .i64 (i : Int))).toNat := by
  simp [intOf]; omega
theorem bx_add {W : World} {p : Nat} {t : TypeId} {l : List Value} (h : Bx W p t l) : ∀ j u, l[j]? = some u → W.cell? ((⟨p, 0, none⟩ : Addr).add j) = some u := fun j u hu => by
  rw [Go.WideShapes.add_plain, Nat.zero_add]
  exact h.cell hu
theorem cells_at3 (w : World) (x y z : Value) (t : TypeId) {n : Nat} (hn : w.heap.size = n) : ∀ j u, [x, y, z][j]? = some u → (w.alloc (.cells #[x, y, z] t)).cell? ((⟨n, 0, none⟩ : Addr).add j) = some u := bx_add (bx_at w [x, y, z] t hn)
/-- what a year's steps withheld, as a row -/
theorem ri_row {w : World} {B : Nat} {v : Value} {L : Int} {f : Nat → Hd.Py} {n : Nat} (h : Hd.Ri w B v (Hd.yrL L f n)) : ∃ A c, v = .slice A n c ∧ rowAt w A n fun k => .int .i64 (Hd.yrH L f k) := by
  unfold Hd.Ri at h
  rw [Hd.yrL_len] at h
  obtain ⟨A, c, rfl, _, _⟩ := own_len' h
  exact ⟨A, c, rfl, iw_row h fun j hj => by rw [List.getElem?_eq_getElem (by rw [Hd.yrL_len]; exact hj), Hd.yrL_get _ _ _ _ hj]⟩
/-- what is due by the end of a period of a year of months -/
def dD (T : TB) (g : Nat → St) (i : Nat) : Int := rD 12 T g (i + 1)
def WtI (T : TB) (g : Nat → St) (cs : Nat → Int) (i : Nat) : Prop := ∀ j, j < i → Fit3 T (g j).s (g j).k (g j).a (g j).f ∧ fitsV T (g j).s (g j).k (g j).a (g j).f = 0 ∧ (-1000000000 ≤ (g j).y ∧ (g j).y ≤ 1000000000) ∧ -1000000000 ≤ cs j ∧ cs j ≤ 1000000000
theorem wt_year {T : TB} (hT : TG T) {g : Nat → St} {cs : Nat → Int} {n : Nat} (hn : n ≤ 12) (h : WtI T g cs n) : firstE (tyE (nom 4) (cnt 4 2024 4 6) T g) n = 0 ∧ (∀ j, j < n → (tyL (nom 4) (cnt 4 2024 4 6) T g n)[j]? = some (dD T g j)) ∧ ∀ j, j < n → 0 ≤ dD T g j ∧ dD T g j ≤ 100000000000 := by
  rw [nom_4, cnt_24]
  have ys := year_same hT (nm := 12) (c := 12) g (by omega) (by omega) (by omega) (n := n) (by omega) (fun i hi => ⟨(h i hi).1, (h i hi).2.1, (h i hi).2.2.1⟩)
  refine ⟨first_of_zero fun j hj => (ys j (by omega)).2.2.2 hj, fun j hj => ?_, fun j hj => ?_⟩
  · have e := (ys (j + 1) (by omega)).1
    simp [tyL, hj, dD, e]
  · have := ys (j + 1) (by omega)
    unfold dD
    refine ⟨this.2.1, ?_⟩
    have h2 := this.2.2.1
    have e : (999999000 : Int) / 12 = 83333250 := by decide
    rw [e] at h2
    have : (((j + 1 : Nat) : Int)) * (1000000000 + 83333250) ≤ 12 * (1000000000 + 83333250) := Int.mul_le_mul_of_nonneg_right (by omega) (by omega)
    omega
/-- the periods of the law's year -/
def wP (T : TB) (g : Nat → St) (cs : Nat → Int) (i : Nat) : Hd.Py := ⟨cs i, dD T g i, !(g i).x⟩
theorem wt_ok {T : TB} (hT : TG T) {g : Nat → St} {cs : Nat → Int} {n : Nat} (hn : n ≤ 12) (h : WtI T g cs n) : ∀ i, i < n → Hd.DuOk (wP T g cs i) := fun i hi => by
  have a := (wt_year hT hn h).2.2 i hi
  have b := (h i hi).2.2.2
  exact ⟨by show -100000000000 ≤ cs i; omega, by show cs i ≤ 100000000000; omega, a.1, a.2⟩
/-- hold.Year of periods whose dues may be -/
theorem hyear_ok (a1 a2 a3 : Option Addr) (n1 n2 n3 c1 c2 c3 : Nat) (L R : Int) (A : Option Addr) (n c : Nat) (f : Nat → Hd.Py) (w : World) (s1 s2 : Int) (h : Hd.Pys w A n f) (hn : n ≤ 1000000) (h0 : firstE (Hd.yrE L f) n = 0) (hs : Hd.yrS L f n = (s1, s2)) :
    Calls Tryd.prog 34 #[.agg #[.slice a1 n1 c1, .slice a2 n2 c2, .slice a3 n3 c3, .int .i64 L, .int .i64 R], .slice A n c] w fun e w' => ∃ Ah ch, e = .returned (.tuple #[.slice Ah n ch, .agg #[.int .i64 s1, .int .i64 s2], .int .i64 0]) ∧ rowAt w' Ah n (fun k => .int .i64 (Hd.yrH L f k)) ∧ Below w.heap.size w w' := by
  refine (Hd.year_any a1 a2 a3 n1 n2 n3 c1 c2 c3 L R A n c f w h hn).mono ?_
  rintro e w' ⟨h1, _, hb⟩
  obtain ⟨v, rfl, hv⟩ := h1 h0
  obtain ⟨Ah, ch, rfl, hr⟩ := ri_row hv
  rw [hs]
  exact ⟨Ah, ch, rfl, hr, hb⟩
theorem wt_at {T : TB} (hT : TG T) {g : Nat → St} {cs : Nat → Int} {n j : Nat} (hd : ∀ i, i < n → Hd.DuOk (wP T g cs i)) (hj : j < n) :
    firstE (Hd.yrE T.L (wP T g cs)) (j + 1) = 0 ∧ ∃ s1 s2 h l D : Int, Hd.yrS T.L (wP T g cs) (j + 1) = (s1, s2) ∧ Hd.yrH T.L (wP T g cs) j = h ∧ Hd.limV T.L (cs j) = l ∧ dD T g j = D ∧ s1 + s2 = D ∧ (0 ≤ D ∧ D ≤ 100000000000) ∧ h ≤ l ∧ ((g j).x = true → 0 ≤ h) ∧ (0 < s2 → h = l) ∧ cs j ≤ 100000000000 := by
  have a := Hd.wh_at hT.ok.l0 hT.ok.l1 (f := wP T g cs) (n := n) hd hj
  have b := Hd.wh_all hT.ok.l0 hT.ok.l1 (f := wP T g cs) (n := j + 1) (fun i hi => hd i (by omega))
  have d := Hd.yrS_due T.L (wP T g cs) j
  obtain ⟨_, q1, q2, q3⟩ := hd j hj
  refine ⟨b.2.2, _, _, _, _, _, rfl, rfl, rfl, rfl, d, ⟨q2, q3⟩, a.1, fun hx => a.2.1 ?_, a.2.2.1, q1⟩
  show (!(g j).x) = false
  rw [hx]; rfl
/-- the periods, and one more behind them, of the most cash -/
def wQ (T : TB) (g : Nat → St) (cs : Nat → Int) (n : Nat) (D : Int) (i : Nat) : Hd.Py := if i < n then wP T g cs i else ⟨100000000000, D, true⟩
theorem pyL_congr {f f' : Nat → Hd.Py} : ∀ {n : Nat}, (∀ i, i < n → f i = f' i) → pyL f n = pyL f' n
  | 0, _ => rfl
  | n + 1, h => by
    show pyL f n ++ pyC (f n) = pyL f' n ++ pyC (f' n)
    rw [pyL_congr fun i hi => h i (by omega), h n (by omega)]
theorem wq_list (T : TB) (g : Nat → St) (cs : Nat → Int) (n : Nat) (D : Int) : pyL (wQ T g cs n D) (n + 1) = pyL (wP T g cs) n ++ [.int .i64 100000000000, .int .i64 D, .bool true] := by
  show pyL (wQ T g cs n D) n ++ pyC (wQ T g cs n D n) = _
  rw [pyL_congr (f := wQ T g cs n D) (f' := wP T g cs) fun i hi => by simp [wQ, hi]]
  simp [wQ, pyC]
theorem wt_tail {T : TB} (hT : TG T) {g : Nat → St} {cs : Nat → Int} {n : Nat} {D : Int} (hd : ∀ i, i < n → Hd.DuOk (wP T g cs i)) (hD : 0 ≤ D ∧ D ≤ 100000000000) :
    firstE (Hd.yrE T.L (wQ T g cs n D)) (n + 1) = 0 ∧ ∃ s1 s2 l : Int, Hd.yrS T.L (wQ T g cs n D) (n + 1) = (s1, s2) ∧ Hd.limV T.L 100000000000 = l ∧ (0 ≤ l ∧ l ≤ 100000000000) ∧ (s2 = 0 ∨ (l < D ∧ 0 < s2)) := by
  have h : ∀ i, i < n + 1 → Hd.DuOk (wQ T g cs n D i) := fun i hi => by
    unfold wQ
    split
    · exact hd i (by assumption)
    · exact ⟨by show (-100000000000 : Int) ≤ 100000000000; decide, by show (100000000000 : Int) ≤ 100000000000; decide, hD.1, hD.2⟩
  have a := Hd.wh_at hT.ok.l0 hT.ok.l1 (f := wQ T g cs n D) (n := n + 1) h (i := n) (by omega)
  have b := Hd.wh_all hT.ok.l0 hT.ok.l1 (f := wQ T g cs n D) (n := n + 1) h
  have l := Hd.limV_bd hT.ok.l0 hT.ok.l1 (c := 100000000000) (by omega)
  have e : wQ T g cs n D n = ⟨100000000000, D, true⟩ := by simp [wQ]
  rw [e] at a
  exact ⟨b.2.2, _, _, _, rfl, rfl, ⟨l.1, l.2.1⟩, a.2.2.2 rfl⟩
end Go.Proofs.YtffihnbpjcgicaaDoor
