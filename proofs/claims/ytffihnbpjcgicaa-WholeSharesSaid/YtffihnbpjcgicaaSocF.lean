/- What social.ToDate answers; the table that the laws write out, and what Corners and Rates answer of its contribution. -/
import Derived.Test.YtffihnbpjcgicaaSocE
namespace Go.Proofs.Ytffihnbpjcgicaa
open Go.RowKit Go.Sort
set_option linter.unusedVariables false
set_option linter.unusedSimpArgs false

theorem rowsM_of {B : Nat} {v : Value} {m n : Nat} {X Y : Nat → Nat → Int} {w : World} (h : RowsI B v m n X Y w) : ∃ A c, v = .slice A m c ∧ RowsM w A m (fun _ => n) X Y ∧ (0 < m → ∃ g, A = some ⟨g, 0, none⟩ ∧ B ≤ g ∧ g < w.heap.size) := by
  obtain ⟨l, ho, hl, hk⟩ := h
  obtain ⟨A, c, rfl, h1, h2⟩ := own_len ho
  refine ⟨A, c, rfl, fun hm => ?_, fun hm => ?_⟩
  · obtain ⟨g, rfl⟩ := h2 hm
    refine ⟨g, 0, rfl, fun k hkm => ?_⟩
    obtain ⟨A', c', e1, e2, _⟩ := hk k hkm
    rw [Nat.zero_add]
    exact ⟨A', c', own_cells ho e1, e2⟩
  · obtain ⟨g, rfl⟩ := h2 hm
    have := ho.lt g rfl
    exact ⟨g, rfl, this.1, this.2⟩
/-- what is wrong with the sums of a year -/
def tdE (T : TB) (x s : Nat → Int) (m : Nat) : Int := firstE (smE T.nC (fun _ => T.nC) (yrA T x s) (yrB' T x s)) m
abbrev TodG (T : TB) (A : Option Addr) (m q : Nat) (w : World) (Q : Value → World → Prop) : Prop :=
  Calls Try.prog 10 #[.agg #[.slice T.AS T.nS T.cS, .slice T.AC T.nC T.cC, .slice T.AK T.nK T.cK, .int .i64 T.L, .int .i64 T.W], .slice A m q] w fun e w' => ∃ v, e = .returned v ∧ Q v w'
set_option maxRecDepth 100000 in
set_option maxHeartbeats 8000000 in
theorem tod_any (T : TB) (A : Option Addr) (m q : Nat) (c x s : Nat → Int) (w : World) (h : Tm w T) (hT : TC T) (hl : BasM w A m c x s) (hm : m ≤ 1000) :
    TodG T A m q w fun v w' => (firstE (yrE T c x s) m = 0 → tdE T x s m = 0 → ∃ b, v = .tuple #[.slice (some ⟨b, 0, none⟩) T.nC T.nC, .int .i64 0] ∧ w.heap.size ≤ b ∧ ShB w' b T.nC (smS (yrA T x s) m) (smS (yrB' T x s) m)) ∧ (firstE (yrE T c x s) m = 0 → tdE T x s m ≠ 0 → v = .tuple #[.slice none 0 0, .int .i64 (tdE T x s m)]) ∧ (firstE (yrE T c x s) m ≠ 0 → v = .tuple #[.slice none 0 0, .int .i64 (firstE (yrE T c x s) m)]) ∧ Below w.heap.size w w' := by
  have h6 := hT.ok.c6
  have B1 := below_new w (.cells #[.slice T.AS T.nS T.cS, .slice T.AC T.nC T.cC, .slice T.AK T.nK T.cK, .int .i64 T.L, .int .i64 T.W] 26)
  have K1 := bx_new w [.slice T.AS T.nS T.cS, .slice T.AC T.nC T.cC, .slice T.AK T.nK T.cK, .int .i64 T.L, .int .i64 T.W] 26
  have cY := year_any T A m q c x s _ (h.below B1) hT (hl.below B1) hm
  have k0 := K1.cell (i := 0) rfl
  have k1 := K1.cell (i := 1) rfl
  have k2 := K1.cell (i := 2) rfl
  have k3 := K1.cell (i := 3) rfl
  have k4 := K1.cell (i := 4) rfl
  clear h hT hl
  unfold TodG
  go_enter Try.func10, Try.ntmps10
  go_wp2_with (fail)
  with_reducible refine cY.mono ?_
  rintro e w2 ⟨v, rfl, hok, hbad, NB⟩
  have B2 := below_step B1 NB B1.size
  replace K1 := K1.below NB
  clear k0 k1 k2 k3 k4 B1 cY
  by_cases hE : firstE (yrE T c x s) m = 0
  · obtain ⟨u, rfl, HR⟩ := hok hE
    obtain ⟨Ar, cr, rfl, HM, _⟩ := rowsM_of HR
    have cS := sum_any T.nC Ar m cr (fun _ => T.nC) (yrA T x s) (yrB' T x s) w2 HM (by omega) hm
    have HTD : tdE T x s m = firstE (smE T.nC (fun _ => T.nC) (yrA T x s) (yrB' T x s)) m := rfl
    rw [← HTD] at cS
    have HE := Lib.hid hE
    have k1 := K1.cell (i := 1) rfl
    clear hok hbad hE HR HM HTD NB
    generalize htd : tdE T x s m = td at *
    have HTDD := Lib.hid htd
    clear htd
    go_wp2_with (fail)
    with_reducible refine cS.mono ?_
    rintro e w3 ⟨hs1, hs2, NB⟩
    have B3 := below_step B2 NB B2.size
    have hz := B2.size
    by_cases h0 : td = 0
    · obtain ⟨b, rfl, hb, HS⟩ := hs1 h0
      have H0 := Lib.hid h0
      have HSS := Lib.hid HS
      clear hs1 hs2 h0 HS
      go_wp2
      go_ret2
      obtain rfl := HTDD.out
      exact ⟨_, rfl, fun _ _ => ⟨b, rfl, by omega, HSS.out⟩, fun _ h => absurd H0.out h, fun h => absurd HE.out h, B3⟩
    · obtain rfl := hs2 h0
      have H0 := Lib.hid h0
      clear hs1 hs2 h0
      go_wp2
      go_ret2
      obtain rfl := HTDD.out
      exact ⟨_, rfl, fun _ h => absurd h H0.out, fun _ _ => rfl, fun h => absurd HE.out h, B3⟩
  · obtain rfl := hbad hE
    have HE := Lib.hid hE
    have q1 : (firstE (yrE T c x s) m != 0) = true := by simpa using hE
    clear hok hbad hE
    generalize hfe : firstE (yrE T c x s) m = fe at *
    have HFF := Lib.hid hfe
    clear hfe
    go_wp2
    go_ret2
    obtain rfl := HFF.out
    exact ⟨_, rfl, fun h => absurd h HE.out, fun h => absurd h HE.out, fun _ => rfl, B2⟩
/-- the table that is written out -/
def fundT (n : Nat) : TB :=
  { AS := some ⟨n + 1 + 1, 0, none⟩, nS := 1, cS := 1, AC := some ⟨n + 1 + 1 + 1 + 1, 0, none⟩, nC := 1, cC := 1, AK := some ⟨n + 1 + 1 + 1 + 1 + 1, 0, none⟩, nK := 1, cK := 1, L := 5000, W := 1,
    S := fun _ => ⟨some ⟨n + 1, 0, none⟩, 1, 1, fun _ => 0, fun _ => 0, fun _ => 0⟩,
    C := fun _ => ⟨⟨#[102, 117, 110, 100]⟩, 2, ⟨some ⟨n + 1 + 1 + 1, 0, none⟩, 1, 1, fun _ => 0, fun _ => 500, fun _ => 1000⟩, 1000, 2500, 4⟩,
    K := fun _ => ⟨⟨#[107]⟩, 0, 0, 0⟩ }
theorem fund_chk (n : Nat) : (fundT n).chk = 0 := by rfl
theorem fund_tc (n : Nat) : TC (fundT n) := tc_of (fund_chk n)
theorem fund_yrE (n : Nat) : firstE (yrE (fundT n) (fun _ => 0) (fun _ => 0) (fun _ => 2000)) 3 = 0 := by rfl
theorem fund_tdE (n : Nat) : tdE (fundT n) (fun _ => 0) (fun _ => 2000) 3 = 0 := by rfl
theorem fund_a (n : Nat) : yrA (fundT n) (fun _ => 0) (fun _ => 2000) 0 0 = 50 ∧ yrA (fundT n) (fun _ => 0) (fun _ => 2000) 2 0 = 25 ∧ yrB' (fundT n) (fun _ => 0) (fun _ => 2000) 0 0 = 100 ∧ yrB' (fundT n) (fun _ => 0) (fun _ => 2000) 2 0 = 50 := ⟨by rfl, by rfl, by rfl, by rfl⟩
theorem fund_s (n : Nat) : smS (yrA (fundT n) (fun _ => 0) (fun _ => 2000)) 3 0 = 125 ∧ smS (yrB' (fundT n) (fun _ => 0) (fun _ => 2000)) 3 0 = 250 := ⟨by rfl, by rfl⟩
end Go.Proofs.Ytffihnbpjcgicaa
