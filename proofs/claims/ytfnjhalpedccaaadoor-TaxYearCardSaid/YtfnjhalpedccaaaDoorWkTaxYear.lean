/- The walk of the law TaxYear. -/
import Derived.Test.YtfnjhalpedccaaaDoorTyA
import Derived.Deep.RegionHeld3
namespace Go.Proofs.YtfnjhalpedccaaaDoor
open Go.RowKit Go.Sort
set_option linter.unusedVariables false
set_option linter.unusedSimpArgs false

theorem bx_add {W : World} {p : Nat} {t : TypeId} {l : List Value} (h : Bx W p t l) : ∀ j u, l[j]? = some u → W.cell? ((⟨p, 0, none⟩ : Addr).add j) = some u := fun j u hu => by
  rw [Go.WideShapes.add_plain, Nat.zero_add]
  exact h.cell hu
theorem infoCd : (Tryd.prog.info? 42).map (fun i => (i.zero, i.size, i.bytes)) = some (some (.agg #[.int .i64 0, .int .i64 0, .int .i64 0, .int .i64 0, .bool false]), 5, 40) := by kernel_rfl
/-- codes, cell by cell -/
def cdL (g : Nat → St) : Nat → List Value
  | 0 => []
  | n + 1 => cdL g n ++ [.int .i64 (g n).s, .int .i64 (g n).k, .int .i64 (g n).a, .int .i64 (g n).f, .bool (g n).x]
theorem cdL_len (g : Nat → St) (n : Nat) : (cdL g n).length = n * 5 := by
  induction n with
  | zero => rfl
  | succ n ih => simp [cdL, ih]; omega
theorem cdL_get (g : Nat → St) {n i j : Nat} (hi : i < n) (hj : j < 5) : (cdL g n)[i * 5 + j]? = ([.int .i64 (g i).s, .int .i64 (g i).k, .int .i64 (g i).a, .int .i64 (g i).f, .bool (g i).x] : List Value)[j]? := by
  induction n with
  | zero => omega
  | succ n ih =>
    show (cdL g n ++ [.int .i64 (g n).s, .int .i64 (g n).k, .int .i64 (g n).a, .int .i64 (g n).f, .bool (g n).x])[i * 5 + j]? = _
    by_cases h : i < n
    · rw [List.getElem?_append_left (by rw [cdL_len]; omega)]; exact ih h
    · obtain rfl : i = n := by omega
      rw [List.getElem?_append_right (by rw [cdL_len]; omega), cdL_len, show i * 5 + j - i * 5 = j by omega]
def yL (g : Nat → St) (n : Nat) : List Int := (List.range n).map fun i => (g i).y
theorem yL_succ (g : Nat → St) (n : Nat) : yL g (n + 1) = yL g n ++ [(g n).y] := by simp [yL, List.range_succ]
theorem yL_len (g : Nat → St) (n : Nat) : (yL g n).length = n := by simp [yL]
/-- the codes and what was taxable, in rows of their own -/
def CoI (B : Nat) (g : Nat → St) (i : Nat) (uc ut : Value) (X : World) : Prop :=
  X.ownsRow B 42 5 uc i (cdL g i) ∧ X.ownsRow B 2 1 ut i (iv (yL g i)) ∧ (∀ j, uc.ownBlock = some j → ut.ownBlock ≠ some j)
theorem own_len' {w : World} {B n size : Nat} {e : TypeId} {v : Value} {xs : List Value} (h : w.ownsRow B e size v n xs) : ∃ A c, v = .slice A n c ∧ (∀ p, A = some p → ∃ g, p = ⟨g, 0, none⟩ ∧ B ≤ g ∧ g < w.heap.size) ∧ (0 < n → ∃ g, A = some ⟨g, 0, none⟩) := by
  rcases h.2 with ⟨hv, h0⟩ | ⟨g, cap, cur, hv, hg, hh, _⟩
  · exact ⟨none, 0, by rw [h0]; exact hv, fun p hp => (nomatch hp), fun h => absurd h (by omega)⟩
  · exact ⟨_, _, hv, fun p hp => ⟨g, by simpa using hp.symm, hg, (Array.getElem?_eq_some_iff.1 hh).1⟩, fun _ => ⟨g, rfl⟩⟩
theorem own_cells' {w : World} {B n size : Nat} {e : TypeId} {g c : Nat} {xs : List Value} (h : w.ownsRow B e size (.slice (some ⟨g, 0, none⟩) n c) n xs) {j : Nat} {u : Value} (hu : xs[j]? = some u) : w.cell? ⟨g, j, none⟩ = some u := by
  have := h.cells (g := g) rfl j u hu
  rwa [Go.WideShapes.add_plain, Nat.zero_add] at this
theorem iw_row {w : World} {B n : Nat} {A : Option Addr} {c : Nat} {l : List Int} {F : Nat → Int} (h : w.ownsRow B 2 1 (.slice A n c) n (iv l)) (hl : ∀ j, j < n → l[j]? = some (F j)) : rowAt w A n fun j => .int .i64 (F j) := fun hn => by
  obtain ⟨A', c', e, hA, hg⟩ := own_len' h
  obtain ⟨g, rfl⟩ := hg hn
  obtain ⟨rfl, _, rfl⟩ := Value.slice.inj e
  refine ⟨g, 0, rfl, fun i hi => ?_⟩
  rw [Nat.zero_add]
  exact own_cells' h (by simp [iv, hl i hi])
theorem row_later {w w' : World} {A : Option Addr} {n : Nat} {g : Nat → Value} (h : rowAt w A n g) (hb : Below w.heap.size w w') : rowAt w' A n g := fun h0 => by
  obtain ⟨b, o, hA, hc⟩ := h h0
  exact ⟨b, o, hA, fun i hi => cell_later hb (hc i hi)⟩
theorem tys_wrap {g : Nat → St} {n j : Nat} (h : ∀ j, j < n → -1000000000 ≤ (g j).y ∧ (g j).y ≤ 1000000000) (hj : j < n) (hn : n ≤ 60) : wrap64 (tyS g j + (g j).y) = tyS g (j + 1) := by
  have b1 := tyS_bd (g := g) (i := j) fun j' hj' => h j' (by omega)
  have b2 := h j hj
  exact IntWalk.wrap64_in _ (by omega)
theorem co_rows {B : Nat} {g : Nat → St} {n : Nat} {uc ut : Value} {X : World} (h : CoI B g n uc ut X) : ∃ Ac cc At ct, uc = .slice Ac n cc ∧ ut = .slice At n ct ∧ Cds X Ac n g ∧ rowAt X At n fun i => .int .i64 (g i).y := by
  obtain ⟨O1, O2, _⟩ := h
  obtain ⟨Ac, cc, rfl, _, h1⟩ := own_len' O1
  obtain ⟨At, ct, rfl, _, h2⟩ := own_len' O2
  refine ⟨Ac, cc, At, ct, rfl, rfl, fun h0 => ?_, fun h0 => ?_⟩
  · obtain ⟨b, rfl⟩ := h1 h0
    refine ⟨b, 0, rfl, fun i hi => ?_⟩
    have c : ∀ j v, j < 5 → ([.int .i64 (g i).s, .int .i64 (g i).k, .int .i64 (g i).a, .int .i64 (g i).f, .bool (g i).x] : List Value)[j]? = some v → X.cell? ⟨b, 0 + i * 5 + j, none⟩ = some v := fun j v hj hv => by
      rw [Nat.zero_add]
      exact own_cells' O1 ((cdL_get g hi hj).trans hv)
    exact ⟨c 0 _ (by omega) rfl, c 1 _ (by omega) rfl, c 2 _ (by omega) rfl, c 3 _ (by omega) rfl, c 4 _ (by omega) rfl⟩
  · obtain ⟨b, rfl⟩ := h2 h0
    refine ⟨b, 0, rfl, fun i hi => ?_⟩
    rw [Nat.zero_add]
    exact own_cells' O2 (by simp [iv, yL, hi])
theorem nom_bd {f : Int} (hf : 1 ≤ f) (hf' : f ≤ 4) : 1 ≤ nom f ∧ nom f ≤ 52 ∧ cnt f 2023 4 6 ≤ nom f + 1 := by
  have e : f = 1 ∨ f = 2 ∨ f = 3 ∨ f = 4 := by omega
  rcases e with rfl | rfl | rfl | rfl <;> decide +kernel
/-- what tax.Year tells, whether it tells or refuses -/
theorem typ_both {w w' : World} {nm c : Int} {T : TB} {g : Nat → St} {n : Nat} {e : Ending} (h : TyP w w' nm c T g n e) : ∃ v x, e = .returned (.tuple #[v, .int .i64 x]) ∧ (firstE (tyE nm c T g) n = 0 → x = 0 ∧ Iw w' w.heap.size v (tyL nm c T g n)) ∧ (firstE (tyE nm c T g) n ≠ 0 → v = .slice none 0 0 ∧ x = firstE (tyE nm c T g) n) ∧ Below w.heap.size w w' := by
  obtain ⟨h1, h2, h3⟩ := h
  by_cases h0 : firstE (tyE nm c T g) n = 0
  · obtain ⟨v, rfl, hv⟩ := h1 h0
    exact ⟨v, 0, rfl, fun _ => ⟨rfl, hv⟩, fun h => absurd h0 h, h3⟩
  · exact ⟨_, _, h2 h0, fun h => absurd h h0, fun _ => ⟨rfl, rfl⟩, h3⟩
/-- the first code that doesn't fit is what tax.Year tells -/
theorem ty_refuses {T : TB} (hT : TG T) {nm c : Int} (g : Nat → St) (hm : 1 ≤ nm) (hm2 : nm ≤ 52) (hc : c ≤ nm + 1) {i n : Nat} (hi : i < n) (hn : (n : Int) ≤ c)
    (hg : ∀ j, j < i → Fit3 T (g j).s (g j).k (g j).a (g j).f ∧ fitsV T (g j).s (g j).k (g j).a (g j).f = 0 ∧ -1000000000 ≤ (g j).y ∧ (g j).y ≤ 1000000000)
    (hy : -1000000000 ≤ (g i).y ∧ (g i).y ≤ 1000000000) (hf : fitsV T (g i).s (g i).k (g i).a (g i).f ≠ 0) : firstE (tyE nm c T g) n = fitsV T (g i).s (g i).k (g i).a (g i).f := by
  have ys := year_same hT (nm := nm) (c := c) (n := i) g hm hm2 hc (by omega) hg
  have h0 : firstE (tyE nm c T g) i = 0 := first_of_zero fun j hj => (ys j (by omega)).2.2.2 hj
  have hE : tyE nm c T g i = fitsV T (g i).s (g i).k (g i).a (g i).f := by
    have hs := tyS_bd (g := g) (i := i) fun j hj => (hg j hj).2.2
    have ha : (addV (tyS g i) (g i).y).2 = 0 := by
      unfold addV
      rw [amtB_mk (by omega) (by omega), amtB_mk (by omega) (by omega), amtB_mk (by omega) (by omega)]
      rfl
    unfold tyE
    rw [if_neg (by simp [ha])]
    cases hx : (g i).x
    · rw [next_all (by omega) hx]; exact due_err hf
    · rw [next_err (by omega) hx (by rw [due_err hf]; exact hf)]; exact due_err hf
  rw [first_stop hi h0 (by rw [hE]; exact hf), hE]
set_option maxRecDepth 100000 in
set_option maxHeartbeats 16000000 in
theorem ty_main (T : TB) (f : Int) (A : Option Addr) (m q : Nat) (g : Nat → St) (w : World) (h : Tm w T) (hF : TFits T) (hK : Kinds w) (hA : Sts w A m g) (hg : ∀ i, i < m → (g i).F) (hm : m ≤ 9223372036854775807) (hf : 1 ≤ f) (hf' : f ≤ 4) (h20 : T.nS ≤ 20) (hc : T.chk = 0) (h60 : m ≤ 60) (hl : (m : Int) ≤ cnt f 2023 4 6) :
    Calls Tryd.prog 3 #[.agg #[.slice T.AS T.nS T.cS, .slice T.AC T.nC T.cC, .slice T.AK T.nK T.cK, .int .i64 T.L, .int .i64 T.W], .int .i64 f, .slice A m q] w fun e w' => e = .returned (.bool true) ∧ Below w.heap.size w w' := by
  have t1 : decide ((20 : Int) < (T.nS : Int)) = false := decide_eq_false (by omega)
  have t3 : decide ((60 : Int) < (m : Int)) = false := decide_eq_false (by omega)
  have t4 : decide (cnt f 2023 4 6 < (m : Int)) = false := decide_eq_false (by omega)
  have hz := tsz_of hF
  have TGH := Lib.hid (tg_of hc)
  have HG := Lib.hid hg
  have HL := Lib.hid hl
  have H6 := Lib.hid h60
  obtain ⟨hn1, hn2, hn3⟩ := nom_bd hf hf'
  have HN := Lib.hid (And.intro hn1 (And.intro hn2 hn3))
  obtain ⟨i0, hi0, hz0, hz1, hz2⟩ := info_parts infoCd
  have Hi := Lib.hid hi0
  have Hz := Lib.hid hz0
  obtain ⟨j0, hj0, hy0, hy1, hy2⟩ := info_parts info2
  have Hj := Lib.hid hj0
  have Hy := Lib.hid hy0
  clear hF hg hi0 hz0 hj0 hy0 hn1 hn2 hn3
  have K := bx_new w [.slice T.AS T.nS T.cS, .slice T.AC T.nC T.cC, .slice T.AK T.nK T.cK, .int .i64 T.L, .int .i64 T.W] 26
  have B := below_new w (.cells #[.slice T.AS T.nS T.cS, .slice T.AC T.nC T.cC, .slice T.AK T.nK T.cK, .int .i64 T.L, .int .i64 T.W] 26)
  have du := dues_any (w.alloc (.cells #[.slice T.AS T.nS T.cS, .slice T.AC T.nC T.cC, .slice T.AK T.nK T.cK, .int .i64 T.L, .int .i64 T.W] 26)) (hK.below B)
  replace h := h.below B
  replace hK := hK.below B
  replace hA := hA.below B
  have z0 : (w.alloc (.cells #[.slice T.AS T.nS T.cS, .slice T.AC T.nC T.cC, .slice T.AK T.nK T.cK, .int .i64 T.L, .int .i64 T.W] 26)).heap.size = w.heap.size + 1 := by simp
  clear z0
  go_enter Tryd.func3, Tryd.ntmps3
  go_wp2_with (fail)
  with_reducible refine du.mono ?_
  rintro e w1 ⟨rfl, hb⟩
  replace K := K.below hb
  replace h := h.below hb
  replace hK := hK.below hb
  replace hA := hA.below hb
  replace B := below_step B hb B.size
  clear hb du
  have HKK := Lib.hid hK
  go_wp2_with (fail)
  with_reducible refine (new_ok f 2023 4 6 hf hf' yrB_23 _ hK).mono ?_
  rintro e w2 ⟨p, rfl, hp, hY, hb⟩
  replace K := K.below hb
  replace h := h.below hb
  replace hA := hA.below hb
  replace B := below_step B hb B.size
  clear hb hK
  have k_0 := K.cell (i := 0) rfl
  have k_1 := K.cell (i := 1) rfl
  have k_2 := K.cell (i := 2) rfl
  have k_3 := K.cell (i := 3) rfl
  have k_4 := K.cell (i := 4) rfl
  have ck : Calls Tryd.prog 7 #[.agg #[.slice T.AS T.nS T.cS, .slice T.AC T.nC T.cC, .slice T.AK T.nK T.cK, .int .i64 T.L, .int .i64 T.W]] w2 fun e w' => e = .returned (.int .i64 T.chk) ∧ Below w2.heap.size w2 w' := check_tab w2 T h hz
  go_wp2_with (fail)
  with_reducible refine ck.mono ?_
  rintro e w3 ⟨rfl, hb⟩
  clear k_0 k_1 k_2 k_3 k_4
  replace K := K.below hb
  replace h := h.below hb
  replace hA := hA.below hb
  replace hY := hY.below hb
  replace B := below_step B hb B.size
  clear hb ck
  have k_0 := K.cell (i := 0) rfl
  have k_1 := K.cell (i := 1) rfl
  have k_2 := K.cell (i := 2) rfl
  have k_3 := K.cell (i := 3) rfl
  have k_4 := K.cell (i := 4) rfl
  clear hz
  rw [hc]
  have cy := tyear_tab T p f 2023 4 6 A m q g w3 h.s TGH.out hY yrB_23 hf hf' hA HG.out HL.out (by have := H6.out; omega)
  go_wp2_with (fail)
  with_reducible refine cy.mono ?_
  rintro e w4 hP
  obtain ⟨v, x, rfl, hv1, hv2, hb⟩ := typ_both hP
  clear k_0 k_1 k_2 k_3 k_4
  replace K := K.below hb
  replace h := h.below hb
  replace hA := hA.below hb
  replace hY := hY.below hb
  replace B := below_step B hb B.size
  clear hb hP cy
  have cC := count_any p f 2023 4 6 _ hY yrB_23 hf hf'
  go_wp2_with (fail)
  with_reducible refine cC.mono ?_
  rintro e w5 ⟨rfl, hb⟩
  have HV : Hid ((firstE (tyE (nom f) (cnt f 2023 4 6) T g) m = 0 → x = 0 ∧ Iw w5 w3.heap.size v (tyL (nom f) (cnt f 2023 4 6) T g m)) ∧ (firstE (tyE (nom f) (cnt f 2023 4 6) T g) m ≠ 0 → v = .slice none 0 0 ∧ x = firstE (tyE (nom f) (cnt f 2023 4 6) T g) m)) := Lib.hid ⟨fun h0 => ⟨(hv1 h0).1, own_below (hv1 h0).2 hb⟩, hv2⟩
  replace K := K.below hb
  replace h := h.below hb
  replace hA := hA.below hb
  replace hY := hY.below hb
  replace B := below_step B hb B.size
  clear hb cC hv1 hv2
  have HS := Lib.hid h.s
  have HYY := Lib.hid hY
  have HA := Lib.hid hA
  have HKB := Lib.hid K
  have HB := Lib.hid B
  clear h hY hA K B hp hl h60 h20
  go_wp2
  have Bw := Below.refl w5.heap.size w5
  go_loopw [11, 12, 13, 72] (fun uc ut su j X => ∃ i : Nat, i ≤ m ∧ j = .int .i64 i ∧ su = .int .i64 (tyS g i) ∧ CoI w5.heap.size g i uc ut X ∧ (∀ j, j < i → Fit3 T (g j).s (g j).k (g j).a (g j).f ∧ fitsV T (g j).s (g j).k (g j).a (g j).f = 0 ∧ -1000000000 ≤ (g j).y ∧ (g j).y ≤ 1000000000) ∧ Below w5.heap.size w5 X) (fun _ _ _ j _ => m - (intOf j).toNat)
  case atStart => exact ⟨0, Nat.zero_le _, rfl, rfl, ⟨World.ownsRow_nil _ _ _ _, World.ownsRow_nil _ _ _ _, fun j hj => by simp [Value.ownBlock] at hj⟩, fun j hj => absurd hj (Nat.not_lt_zero _), Bw⟩
  case round =>
    clear Bw
    obtain ⟨i, hi, rfl, rfl, hCo, hz, hbX⟩ := hrel
    by_cases hlt : i < m
    · have hil : (i : Int) < (m : Int) := by omega
      obtain ⟨b, o, rfl, hcs⟩ := HA.out (by omega)
      obtain ⟨g0, g1, g2, g3, g4, g5⟩ := hcs i hlt
      replace g0 := cell_later hbX g0
      replace g1 := cell_later hbX g1
      replace g2 := cell_later hbX g2
      replace g3 := cell_later hbX g3
      replace g4 := cell_later hbX g4
      replace g5 := cell_later hbX g5
      have hgF := HG.out i hlt
      have KX := bx_new wr [.int .i64 (g i).s, .int .i64 (g i).k, .int .i64 (g i).a, .int .i64 (g i).f, .bool (g i).x, .int .i64 (g i).y] 44
      have NX := below_new wr (.cells #[.int .i64 (g i).s, .int .i64 (g i).k, .int .i64 (g i).a, .int .i64 (g i).f, .bool (g i).x, .int .i64 (g i).y] 44)
      have kx_0 := KX.cell (i := 0) rfl
      have kx_1 := KX.cell (i := 1) rfl
      have kx_2 := KX.cell (i := 2) rfl
      have kx_3 := KX.cell (i := 3) rfl
      have kx_4 := KX.cell (i := 4) rfl
      have kx_5 := KX.cell (i := 5) rfl
      by_cases hin : -1000000000 ≤ (g i).y ∧ (g i).y ≤ 1000000000
      rotate_left
      · have key : decide (1000000000 < (g i).y) = true ∨ (decide (1000000000 < (g i).y) = false ∧ decide ((g i).y < -1000000000) = true) := by
          by_cases e : 1000000000 < (g i).y
          · exact .inl (decide_eq_true e)
          · exact .inr ⟨decide_eq_false e, decide_eq_true (by omega)⟩
        have B2 := below_step (below_step HB.out hbX HB.out.size) NX (Nat.le_trans HB.out.size hbX.size)
        clear hin hz hCo hbX hcs KX NX hgF
        generalize (g i).y = yy at *
        rcases key with l0 | ⟨l0, l1⟩
        all_goals
          go_wp2
          go_ret
          exact ⟨rfl, B2⟩
      have l0 : decide (1000000000 < (g i).y) = false := decide_eq_false (by omega)
      have l1 : decide ((g i).y < -1000000000) = false := decide_eq_false (by omega)
      have hbX2 := below_step hbX NX hbX.size
      have K := HKB.out.below hbX2
      have k_0 := K.cell (i := 0) rfl
      have k_1 := K.cell (i := 1) rfl
      have k_2 := K.cell (i := 2) rfl
      have k_3 := K.cell (i := 3) rfl
      have k_4 := K.cell (i := 4) rfl
      have cF := fits_tab T (g i).s (g i).k (g i).a (g i).f (g i).x (wr.alloc (.cells #[.int .i64 (g i).s, .int .i64 (g i).k, .int .i64 (g i).a, .int .i64 (g i).f, .bool (g i).x, .int .i64 (g i).y] 44)) (HS.out.below hbX2) TGH.out.z hgF.1.1 hgF.1.2
      have HIN := Lib.hid hin
      have HZZ := Lib.hid hz
      have HCO := Lib.hid hCo
      clear hin hz hCo hcs hbX hgF
      generalize hE : fitsV T (g i).s (g i).k (g i).a (g i).f = E at *
      have HE := Lib.hid hE
      clear hE
      go_wp2_with (fail)
      with_reducible refine cF.mono ?_
      rintro e w6 ⟨rfl, hb⟩
      clear k_0 k_1 k_2 k_3 k_4
      clear kx_0 kx_1 kx_2 kx_3 kx_4 kx_5
      replace KX := KX.below hb
      have hbX3 := below_step hbX2 hb hbX2.size
      have HCO3 := HCO
      have HCO2 : Hid (CoI w5.heap.size g i u11 u12 w6) := Lib.hid ⟨own_below HCO.out.1 (below_step NX hb NX.size), own_below HCO.out.2.1 (below_step NX hb NX.size), HCO.out.2.2⟩
      clear cF hbX2 NX hb K HCO
      generalize (wr.alloc (.cells #[.int .i64 (g i).s, .int .i64 (g i).k, .int .i64 (g i).a, .int .i64 (g i).f, .bool (g i).x, .int .i64 (g i).y] 44)) = w7 at *
      by_cases hE0 : E = 0
      rotate_left
      · have e0 : (E != 0) = true := by simp [hE0]
        have hx := ty_refuses TGH.out (nm := nom f) (c := cnt f 2023 4 6) g HN.out.1 HN.out.2.1 HN.out.2.2 hlt HL.out HZZ.out HIN.out (by rw [HE.out]; exact hE0)
        rw [HE.out] at hx
        obtain ⟨rfl, rfl⟩ := HV.out.2 (by rw [hx]; exact hE0)
        have B2 := below_step HB.out hbX3 HB.out.size
        rw [hx]
        clear hx hE0 hbX3 KX HV
        go_wp2
        go_ret
        exact ⟨rfl, B2⟩
      subst hE0
      have hzn : Hid (∀ j, j < i + 1 → Fit3 T (g j).s (g j).k (g j).a (g j).f ∧ fitsV T (g j).s (g j).k (g j).a (g j).f = 0 ∧ -1000000000 ≤ (g j).y ∧ (g j).y ≤ 1000000000) := Lib.hid fun j hj => by
        by_cases e : j = i
        · subst e; exact ⟨fitsV_zero HE.out, HE.out, HIN.out⟩
        · exact HZZ.out j (by omega)
      have hsum : wrap64 (tyS g i + (g i).y) = tyS g (i + 1) := by
        have b1 := tyS_bd (g := g) (i := i) fun j hj => (HZZ.out j hj).2.2
        have b2 := HIN.out
        have b3 := H6.out
        exact IntWalk.wrap64_in _ (by omega)
      have hi60 : i + 1 ≤ 60 := Nat.le_trans (Nat.succ_le_of_lt hlt) H6.out
      have HLY := Lib.hid (yL_succ g i)
      have hqx := KX.lt
      have HXX : Hid ((u11 : Value).ownBlock ≠ some wr.heap.size) := Lib.hid fun e => absurd (HCO3.out.1.lt _ e).2 (Nat.lt_irrefl _)
      have hyl := yL_len g i
      clear HIN HZZ HE l0 l1 g0 g1 g2 g3 g4 g5
      generalize wr.heap.size = qx at *
      have kx_0 := KX.cell (i := 0) rfl
      have kx_1 := KX.cell (i := 1) rfl
      have kx_2 := KX.cell (i := 2) rfl
      have kx_3 := KX.cell (i := 3) rfl
      have kx_4 := KX.cell (i := 4) rfl
      have kx_5 := KX.cell (i := 5) rfl
      have hcA := bx_add (bx_new w6 [.int .i64 (g i).s, .int .i64 (g i).k, .int .i64 (g i).a, .int .i64 (g i).f, .bool (g i).x] 42)
      have hc2 : ∀ v ∈ ([.int .i64 (g i).s, .int .i64 (g i).k, .int .i64 (g i).a, .int .i64 (g i).f, .bool (g i).x] : List Value), v.oneCell' = true := by simp [Value.oneCell']
      have hc3 : i + 1 ≤ maxLen := Nat.le_trans hi60 (by decide)
      have hc4 : (i + 1) * 40 ≤ 140737488355328 := Nat.le_trans (Nat.mul_le_mul_right 40 hi60) (by decide)
      have hc5 : w5.heap.size ≤ (w6.alloc (.cells #[.int .i64 (g i).s, .int .i64 (g i).k, .int .i64 (g i).a, .int .i64 (g i).f, .bool (g i).x] 42)).heap.size := Nat.le_trans hbX3.size (below_new w6 _).size
      have hd2 : ∀ v ∈ ([.int .i64 (g i).y] : List Value), v.oneCell' = true := by simp [Value.oneCell']
      have hd4 : (i + 1) * 8 ≤ 140737488355328 := Nat.le_trans (Nat.mul_le_mul_right 8 hi60) (by decide)
      have HO := Lib.hid HCO2.out.1
      have HOB := Lib.hid HCO2.out.2.1
      have HSEP := Lib.hid HCO2.out.2.2
      clear HCO2
      go_wp2_with (at_builtin; first
        | (refine wpList_append_own_at _ rfl _ _ 40 rfl w5.heap.size 42 i0 (.agg #[.int .i64 0, .int .i64 0, .int .i64 0, .int .i64 0, .bool false]) 5 40 Tryd.underlying40 Hi.out Hz.out hz1 hz2 rfl (by decide) _ _ _ rfl (HO.out.alloc _) ⟨w6.heap.size, 0, none⟩ 1 1 [.int .i64 (g i).s, .int .i64 (g i).k, .int .i64 (g i).a, .int .i64 (g i).f, .bool (g i).x] rfl rfl hcA hc2 hc3 hc4 hc5 ?_
           intro va wa hownA hgA _ hobA
           have sepA : ∀ j, va.ownBlock = some j → u12.ownBlock ≠ some j := fun j hj hb => by
             rcases hobA with h | h
             · exact HSEP.out j (h.symm.trans hj) hb
             · have h2 := (HOB.out.lt j hb).2
               rw [h] at hj
               simp at hj
               omega
           have OB2 : wa.ownsRow w5.heap.size 2 1 u12 i (iv (yL g i)) := (HOB.out.alloc _).kept hgA (by
             cases hub : u12.ownBlock with
             | none => exact .inl rfl
             | some j => exact .inr fun e => HSEP.out j e.symm hub)
           have Ba := (hbX3.alloc hbX3.size (Obj.cells #[.int .i64 (g i).s, .int .i64 (g i).k, .int .i64 (g i).a, .int .i64 (g i).f, .bool (g i).x] 42)).grown hgA hc5 (fun k hk => (HO.out.lt k hk).1)
           have KXa := (KX.alloc (.cells #[.int .i64 (g i).s, .int .i64 (g i).k, .int .i64 (g i).a, .int .i64 (g i).f, .bool (g i).x] 42)).of_block (hgA.block _ (KX.alloc _).lt (fun e => HXX.out e.symm))
           have OA2 : wa.ownsRow w5.heap.size 42 5 va (i + 1) (cdL g (i + 1)) := hownA
           have hcB := bx_add (bx_new wa [.int .i64 (g i).y] 2)
           have hd5 : w5.heap.size ≤ (wa.alloc (.cells #[.int .i64 (g i).y] 2)).heap.size := Nat.le_trans Ba.size (below_new wa _).size
           clear hownA hgA hobA hcA hc2 hc4 hc5 HO HOB kx_0 kx_1 kx_2 kx_3 kx_4 kx_5
           have kx_5 := KXa.cell (i := 5) rfl
           have HOB := Lib.hid OB2
           have HSA := Lib.hid sepA
           have HOA := Lib.hid OA2
           clear OB2 sepA OA2 KXa)
        | (refine wpList_append_own_at _ rfl _ _ 36 rfl w5.heap.size 2 j0 (.int .i64 0) 1 8 Tryd.underlying36 Hj.out Hy.out hy1 hy2 rfl (by decide) _ _ _ rfl (HOB.out.alloc _) ⟨wa.heap.size, 0, none⟩ 1 1 [.int .i64 (g i).y] rfl rfl hcB hd2 hc3 hd4 hd5 ?_
           intro vb wb hownB hgB _ hobB
           have OB3 : wb.ownsRow w5.heap.size 2 1 vb (i + 1) (iv (yL g (i + 1))) := Eq.mpr (by rw [HLY.out]; simp [iv]) hownB
           have OA3 : wb.ownsRow w5.heap.size 42 5 va (i + 1) (cdL g (i + 1)) := (HOA.out.alloc (Obj.cells #[.int .i64 (g i).y] 2)).kept hgB (by
             cases hva : va.ownBlock with
             | none => exact .inl rfl
             | some j => exact .inr fun e => HSA.out j hva e.symm)
           have sepB : ∀ j, va.ownBlock = some j → vb.ownBlock ≠ some j := fun j hj hb => by
             rcases hobB with h | h
             · exact HSA.out j hj (h.symm.trans hb)
             · have h2 := (HOA.out.lt j hj).2
               rw [h] at hb
               simp at hb
               omega
           have Bb := (Ba.alloc Ba.size (Obj.cells #[.int .i64 (g i).y] 2)).grown hgB hd5 (fun k hk => (HOB.out.lt k hk).1)
           clear hownB hgB hobB hcB hd2 hd4 hd5 HOB HOA))
      refine ⟨⟨i + 1, by omega, by go_num, rfl, ⟨OA3, OB3, sepB⟩, hzn.out, Bb⟩, ?_⟩
      simp [intOf]; omega
    · obtain rfl : i = m := by omega
      have hnl : ¬ (i : Int) < (i : Int) := by omega
      obtain ⟨Ac, cc, At, ct, rfl, rfl, hCd, hAt⟩ := co_rows hCo
      have ys := year_same TGH.out (nm := nom f) (c := cnt f 2023 4 6) (n := i) g HN.out.1 HN.out.2.1 HN.out.2.2 HL.out hz
      have h0 : firstE (tyE (nom f) (cnt f 2023 4 6) T g) i = 0 := first_of_zero fun j hj => (ys j (by omega)).2.2.2 hj
      obtain ⟨rfl, hIw⟩ := HV.out.1 h0
      have hIw2 := own_below hIw hbX
      have hS := HS.out.below hbX
      have hY := HYY.out.below hbX
      have hA := HA.out.below hbX
      have K := HKB.out.below hbX
      have B2 := below_step HB.out hbX HB.out.size
      have hK := hY.1
      have cN := nominal_any f wr.drew (hK.below ((Below.refl _ _).drew))
      have D1 : Below wr.heap.size wr wr.drew := (Below.refl _ _).drew
      have cY := ryear_any T (nom f) Ac At i cc ct g wr.drew (hS.below D1) TGH.out (hCd.below D1) hAt hz H6.out HN.out.1 (by have := HN.out.2.1; omega)
      have HYS := Lib.hid ys
      have HZZ := Lib.hid hz
      have HAT := Lib.hid hAt
      have HIW := Lib.hid hIw2
      have HSS := Lib.hid hS
      have HYY2 := Lib.hid hY
      have HA2 := Lib.hid hA
      have HKB2 := Lib.hid K
      have HB2 := Lib.hid B2
      have k_0 := K.cell (i := 0) rfl
      have k_1 := K.cell (i := 1) rfl
      have k_2 := K.cell (i := 2) rfl
      have k_3 := K.cell (i := 3) rfl
      have k_4 := K.cell (i := 4) rfl
      have S1 : wr.drew.cell? ⟨w.heap.size, 0, none⟩ = some (.slice T.AS T.nS T.cS) ∧ wr.drew.cell? ⟨w.heap.size, 1, none⟩ = some (.slice T.AC T.nC T.cC) ∧ wr.drew.cell? ⟨w.heap.size, 2, none⟩ = some (.slice T.AK T.nK T.cK) ∧ wr.drew.cell? ⟨w.heap.size, 3, none⟩ = some (.int .i64 T.L) ∧ wr.drew.cell? ⟨w.heap.size, 4, none⟩ = some (.int .i64 T.W) ∧ Below wr.heap.size wr wr.drew := ⟨k_0, k_1, k_2, k_3, k_4, (Below.refl _ _).drew⟩
      have mk : ∀ V : World, Below wr.heap.size wr V → (V.cell? ⟨w.heap.size, 0, none⟩ = some (.slice T.AS T.nS T.cS) ∧ V.cell? ⟨w.heap.size, 1, none⟩ = some (.slice T.AC T.nC T.cC) ∧ V.cell? ⟨w.heap.size, 2, none⟩ = some (.slice T.AK T.nK T.cK) ∧ V.cell? ⟨w.heap.size, 3, none⟩ = some (.int .i64 T.L) ∧ V.cell? ⟨w.heap.size, 4, none⟩ = some (.int .i64 T.W) ∧ Below wr.heap.size wr V) := fun V hb => ⟨cell_later hb k_0, cell_later hb k_1, cell_later hb k_2, cell_later hb k_3, cell_later hb k_4, hb⟩
      have hI1 : wr.ownsRow w3.heap.size 2 1 v i (iv (tyL (nom f) (cnt f 2023 4 6) T g i)) := by have := hIw2; unfold Iw at this; rw [show (tyL (nom f) (cnt f 2023 4 6) T g i).length = i from tyL_len _ _ _ _ _] at this; exact this
      obtain ⟨Ag, cg, rfl, _, _⟩ := own_len' hI1
      have HGG := Lib.hid HG.out
      clear hCo ys h0 hIw hIw2 hS hY hA K B2 hK hCd hAt hz hbX hlt hi HV HA HG HS HYY HKB HB
      go_wp2
      go_region_held3 (fun X => X.cell? ⟨w.heap.size, 0, none⟩ = some (.slice T.AS T.nS T.cS) ∧ X.cell? ⟨w.heap.size, 1, none⟩ = some (.slice T.AC T.nC T.cC) ∧ X.cell? ⟨w.heap.size, 2, none⟩ = some (.slice T.AK T.nK T.cK) ∧ X.cell? ⟨w.heap.size, 3, none⟩ = some (.int .i64 T.L) ∧ X.cell? ⟨w.heap.size, 4, none⟩ = some (.int .i64 T.W) ∧ Below wr.heap.size wr X)
        ((first | exact S1 | assumption))
        (first
          | (go_at_call 12; (with_reducible refine cN.mono ?_); rintro e w6 ⟨rfl, hw6⟩; subst hw6)
          | (go_at_call 11; (with_reducible refine cY.mono ?_); rintro e w7 ⟨v2, rfl, IR, hb7⟩; have SW := mk w7 (below_step D1 hb7 D1.size); have HIR := Lib.hid IR; clear IR))
      all_goals
        rename_i hH
        have B7 := hH.2.2.2.2.2
        clear hH
        have hI2 : w7.ownsRow wr.drew.heap.size 2 1 v2 i (iv (rL (nom f) T g i)) := by have := HIR.out; unfold Iw at this; rw [show (rL (nom f) T g i).length = i from rL_len _ _ _ _] at this; exact this
        obtain ⟨Aw, cw, rfl, _, _⟩ := own_len' hI2
        have hRW := iw_row hI2 (F := fun j => rD (nom f) T g (j + 1)) (fun j hj => by simp [rL, hj])
        have hRG := row_later (iw_row hI1 (F := fun j => tyD (nom f) (cnt f 2023 4 6) T g (j + 1)) (fun j hj => by simp [tyL, hj])) B7
        have HRW := Lib.hid hRW
        have HRG := Lib.hid hRG
        have HAT3 := Lib.hid (row_later HAT.out B7)
        have HA3 := Lib.hid (HA2.out.below B7)
        have HS3 := Lib.hid (HSS.out.below B7)
        have HY3 := Lib.hid (HYY2.out.below B7)
        have HK3 := Lib.hid (HKB2.out.below B7)
        have HB3 := Lib.hid (below_step HB2.out B7 HB2.out.size)
        clear hI2 hRW hRG B7 S1 mk HIR cN cY D1 k_0 k_1 k_2 k_3 k_4 HAT HA2 HSS HYY2 HKB2 HB2 hI1 HIW
        have hne : ((i : Int) != (i : Int)) = false := by simp
        go_wp2
        clear hne
        have Bw := Below.refl w7.heap.size w7
        go_loopw [18, 19, 130] (fun su dd jj X => ∃ j : Nat, j ≤ i ∧ jj = .int .i64 j ∧ su = .int .i64 (tyS g j) ∧ dd = .int .i64 (rD (nom f) T g j) ∧ Below w7.heap.size w7 X) (fun _ _ jj _ => i - (intOf jj).toNat)
        case atStart => exact ⟨0, Nat.zero_le _, rfl, rfl, rfl, Bw⟩
        case round =>
          clear Bw
          obtain ⟨j, hj, rfl, rfl, rfl, hbX⟩ := hrel
          by_cases hlj : j < i
          · have hjl : (j : Int) < (i : Int) := by omega
            have hj0 : (0 : Int) ≤ (j : Int) := by omega
            obtain ⟨ba, oa, rfl, hca⟩ := HA3.out (by omega)
            obtain ⟨g0, g1, g2, g3, g4, g5⟩ := hca j hlj
            obtain ⟨bt, ot, rfl, hct⟩ := HAT3.out (by omega)
            have gt := hct j hlj
            obtain ⟨bg, og, rfl, hcg⟩ := HRG.out (by omega)
            have gg := hcg j hlj
            obtain ⟨bw, ow, rfl, hcw⟩ := HRW.out (by omega)
            have gw := hcw j hlj
            dsimp only at gt gg gw
            replace g0 := cell_later hbX g0
            replace g1 := cell_later hbX g1
            replace g2 := cell_later hbX g2
            replace g3 := cell_later hbX g3
            replace g4 := cell_later hbX g4
            replace g5 := cell_later hbX g5
            replace gt := cell_later hbX gt
            replace gg := cell_later hbX gg
            replace gw := cell_later hbX gw
            have hgF := HGG.out j hlj
            have yj := HYS.out j (by omega)
            have yj1 := HYS.out (j + 1) (by omega)
            have hw1 : wrap64 ((j : Int) + 1) = (j : Int) + 1 := IntWalk.wrap64_in _ (by have := H6.out; omega)
            have hsum : wrap64 (tyS g j + (g j).y) = tyS g (j + 1) := tys_wrap (fun j' hj' => (HZZ.out j' hj').2.2) hlj H6.out
            have hnx : nextT (nom f) (cnt f 2023 4 6) T (g j) ((j : Int) + 1) (tyS g (j + 1)) (rD (nom f) T g j) = (rD (nom f) T g (j + 1), 0) := by
              have e1 : (nextT (nom f) (cnt f 2023 4 6) T (g j) ((j : Int) + 1) (tyS g (j + 1)) (tyD (nom f) (cnt f 2023 4 6) T g j)).1 = tyD (nom f) (cnt f 2023 4 6) T g (j + 1) := rfl
              have e2 := yj.2.2.2 hlj
              unfold tyE at e2
              by_cases e3 : (addV (tyS g j) (g j).y).2 ≠ 0
              · rw [if_pos e3] at e2; exact absurd e2 e3
              rw [if_neg e3] at e2
              rw [yj.1] at e1 e2
              rw [yj1.1] at e1
              exact Prod.ext e1 e2
            have hS4 := HS3.out.below hbX
            have hY4 := HY3.out.below hbX
            have K4 := HK3.out.below hbX
            have cX := fun (d : Nat) (os : Array Obj) => next_tab T (g j) p f 2023 4 6 ((j : Int) + 1) (tyS g (j + 1)) (rD (nom f) T g j) (grow (redrawn wr d) os) (hS4.below (below_regrown wr d os)) TGH.out (hY4.below (below_regrown wr d os)) yrB_23 hf hf' hgF
            rw [hnx] at cX
            replace cX := fun (d : Nat) (os : Array Obj) => Calls.regrown_of (d := d) (os := os) (w := wr) (cX d os)
            rw [yj1.1] at gg
            have k0 := fun d os => cell_regrown (K4.cell (i := 0) rfl) d os
            have k1 := fun d os => cell_regrown (K4.cell (i := 1) rfl) d os
            have k2 := fun d os => cell_regrown (K4.cell (i := 2) rfl) d os
            have k3 := fun d os => cell_regrown (K4.cell (i := 3) rfl) d os
            have k4 := fun d os => cell_regrown (K4.cell (i := 4) rfl) d os
            have qg0 := fun d os => cell_regrown g0 d os
            have qg1 := fun d os => cell_regrown g1 d os
            have qg2 := fun d os => cell_regrown g2 d os
            have qg3 := fun d os => cell_regrown g3 d os
            have qg4 := fun d os => cell_regrown g4 d os
            have qg5 := fun d os => cell_regrown g5 d os
            clear hS4 hY4 K4 yj yj1 hnx hgF hca hct hcg hcw g0 g1 g2 g3 g4 g5
            go_wp2
            refine wp_region_quiet_below mixedT (by kernel_rfl) ?_
            iterate 10 (go_big_quiet_step (fail))
            go_big_quiet_step (exact cX _ _)
            repeat (go_big_quiet_step (fail))
            refine wpQuiet_nil ?_
            intro _ hw'
            obtain ⟨⟨dq, osq⟩, hw''⟩ := hw'
            subst hw''
            have NB := below_regrown wr dq osq
            replace gg := cell_later NB gg
            replace gw := cell_later NB gw
            have hbX2 := below_step hbX NB hbX.size
            clear cX k0 k1 k2 k3 k4 qg0 qg1 qg2 qg3 qg4 qg5 NB hbX gt
            generalize grow (redrawn wr dq) osq = w9 at *
            generalize hrr : rD (nom f) T g (j + 1) = rr at *
            have HRR := Lib.hid hrr
            clear hrr
            have hne1 : (rr != rr) = false := by simp
            go_wp2
            go_quiet (fail)
            go_wp2
            refine ⟨⟨j + 1, by omega, by go_num, rfl, by rw [HRR.out], below_drewN hbX2 _⟩, ?_⟩
            simp [intOf]; omega
          · obtain rfl : i = j := by omega
            have hnl2 : ¬ (i : Int) < (i : Int) := by omega
            have hS4 := HS3.out.below hbX
            have hY4 := HY3.out.below hbX
            have K4 := HK3.out.below hbX
            have B4 := below_step HB3.out hbX HB3.out.size
            have cZ : Calls Tryd.prog 13 #[.agg #[.slice T.AS T.nS T.cS, .slice T.AC T.nC T.cC, .slice T.AK T.nK T.cK, .int .i64 T.L, .int .i64 T.W], .pointer (some ⟨p, 0, none⟩), .int .i64 0, .agg #[.int .i64 0, .int .i64 0, .int .i64 0, .int .i64 0, .bool false, .int .i64 0], .int .i64 0, .int .i64 0] wr fun e w' => e = .returned (.tuple #[.int .i64 (nextT (nom f) (cnt f 2023 4 6) T ⟨0, 0, 0, 0, false, 0⟩ 0 0 0).1, .int .i64 (nextT (nom f) (cnt f 2023 4 6) T ⟨0, 0, 0, 0, false, 0⟩ 0 0 0).2]) ∧ Below wr.heap.size wr w' := next_tab T ⟨0, 0, 0, 0, false, 0⟩ p f 2023 4 6 0 0 0 wr hS4 TGH.out hY4 yrB_23 hf hf' ⟨⟨by decide, by decide⟩, by decide, by decide⟩
            rw [next_out (.inl (by decide))] at cZ
            have k_0 := K4.cell (i := 0) rfl
            have k_1 := K4.cell (i := 1) rfl
            have k_2 := K4.cell (i := 2) rfl
            have k_3 := K4.cell (i := 3) rfl
            have k_4 := K4.cell (i := 4) rfl
            clear hS4 hY4 K4 hbX
            go_wp2_with (fail)
            with_reducible refine cZ.mono ?_
            rintro e w9 ⟨rfl, hb⟩
            have B5 := below_step B4 hb B4.size
            clear cZ hb B4 k_0 k_1 k_2 k_3 k_4
            go_wp2
            go_ret
            exact ⟨rfl, B5⟩
theorem wTaxYear (T : TB) (f : Int) (A : Option Addr) (m q : Nat) (g : Nat → St) (w : World) (hK : Kinds w) (h : Tm w T) (hF : TFits T) (hfb : -9223372036854775808 ≤ f ∧ f ≤ 9223372036854775807) (hA : Sts w A m g) (hm : m ≤ 9223372036854775807) (hg : ∀ i, i < m → (g i).F) :
    Calls Tryd.prog 3 #[.agg #[.slice T.AS T.nS T.cS, .slice T.AC T.nC T.cC, .slice T.AK T.nK T.cK, .int .i64 T.L, .int .i64 T.W], .int .i64 f, .slice A m q] w fun e w' => e = .returned (.bool true) ∧ Below w.heap.size w w' := by
  by_cases h1 : f < 1 ∨ 4 < f
  · exact ty_freq T f A m q g w h hF hK hA hg hm h1
  by_cases h2 : 20 < T.nS
  · exact ty_big T f A m q g w h hF hK hA hg hm (by omega) (by omega) h2
  by_cases h3 : T.chk = 0
  rotate_left
  · exact ty_chk T f A m q g w h hF hK hA hg hm (by omega) (by omega) (by omega) h3
  by_cases h4 : 60 < m
  · exact ty_many T f A m q g w h hF hK hA hg hm (by omega) (by omega) (by omega) h3 h4
  by_cases h5 : cnt f 2023 4 6 < m
  · exact ty_long T f A m q g w h hF hK hA hg hm (by omega) (by omega) (by omega) h3 (by omega) h5
  · exact ty_main T f A m q g w h hF hK hA hg hm (by omega) (by omega) (by omega) h3 (by omega) (by omega)
end Go.Proofs.YtfnjhalpedccaaaDoor
