/- What Add answers of any functions. -/
import Derived.Test.YtcldknmhmbpboaaPcJ
namespace Go.Proofs.Ytcldknmhmbpboaa
open Go.RowKit Go.Sort
set_option linter.unusedVariables false
set_option linter.unusedSimpArgs false

namespace Lf
/-- the first k stretches, so many times the second one -/
def smL (f g : Lf) (t : Int) : Nat → Lf
  | 0 => emp
  | k + 1 => (smL f g t k).thn (cut f g k) (f.val (cut f g k) + t * g.val (cut f g k)) (f.R (f.idx (cut f g k)) + t * g.R (g.idx (cut f g k)))
def smH (f g : Lf) (t : Int) (x : Int) : Int := f.val x + t * g.val x
theorem tmul {t : Int} (ht : t = -1 ∨ t = 0 ∨ t = 1) (d p : Int) : d * (t * p) = t * (d * p) := by
  rcases ht with rfl | rfl | rfl
  · rw [Int.neg_one_mul, Int.neg_one_mul, Int.mul_neg]
  · rw [Int.zero_mul, Int.zero_mul, Int.mul_zero]
  · rw [Int.one_mul, Int.one_mul]
theorem sm_rep {f g : Lf} (hf : f.Ord) (hg : g.Ord) {t : Int} (ht : t = -1 ∨ t = 0 ∨ t = 1) : ∀ {k : Nat}, (∀ j, j < k → cut f g j ≤ 10000000000) → Rep (smL f g t k) (cut f g k) (smH f g t)
  | 0, _ => rep_emp _
  | k + 1, h => by
    have ih := sm_rep hf hg ht (k := k) fun j hj => h j (by omega)
    have b := cut_bd hf hg (k := k) fun j hj => h j (by omega)
    have c := ce_bd hf hg b.1 (h k (by omega))
    refine ih.thn b.1 (by rw [cut_succ]; omega) fun x p q => ?_
    rw [cut_succ] at q
    have o1 := (hf.over b.1 (h k (by omega)) p (by omega)).2
    have o2 := (hg.over b.1 (h k (by omega)) p (by omega)).2
    unfold smH
    rw [o1, o2, Int.mul_add, tmul ht, Int.mul_add]
    omega
theorem sm_n (f g : Lf) (t : Int) : ∀ k, (smL f g t k).n ≤ k
  | 0 => Nat.le_refl _
  | k + 1 => Nat.le_trans (thn_n _ _ _ _) (by have := sm_n f g t k; omega)
theorem t_bd {t x lo hi : Int} (ht : t = -1 ∨ t = 0 ∨ t = 1) (h1 : -hi ≤ x) (h2 : x ≤ hi) (h0 : 0 ≤ hi) : -hi ≤ t * x ∧ t * x ≤ hi := by
  rcases ht with rfl | rfl | rfl <;> omega
theorem sm_R {f g : Lf} (hf : f.OK) (hg : g.OK) {t : Int} (ht : t = -1 ∨ t = 0 ∨ t = 1) : ∀ {k : Nat}, (∀ j, j < k → cut f g j ≤ 10000000000) → ∀ i, i < (smL f g t k).n → -80000 ≤ (smL f g t k).R i ∧ (smL f g t k).R i ≤ 80000
  | 0, _ => fun i hi => absurd hi (Nat.not_lt_zero i)
  | k + 1, h => thn_R (p := fun r => -80000 ≤ r ∧ r ≤ 80000) (sm_R hf hg ht fun j hj => h j (by omega)) (by
      have b := cut_bd hf.toOrd hg.toOrd (k := k) fun j hj => h j (by omega)
      have r1 := hf.rb _ (hf.toOrd.idx_bd b.1 (h k (by omega))).1
      have r2 := hg.rb _ (hg.toOrd.idx_bd b.1 (h k (by omega))).1
      have := t_bd (lo := 0) (hi := 40000) ht (x := g.R (g.idx (cut f g k))) (by omega) (by omega) (by omega)
      show -80000 ≤ _ ∧ _ ≤ (80000 : Int)
      omega)
theorem sm_RG {f g : Lf} (hf : f.Ord) (hg : g.Ord) {t : Int} : ∀ {k : Nat}, (∀ j, j < k → cut f g j ≤ 10000000000) → ∀ i, i < (smL f g t k).n → ∃ x, 0 ≤ x ∧ x ≤ 10000000000 ∧ (smL f g t k).R i = f.R (f.idx x) + t * g.R (g.idx x)
  | 0, _ => fun i hi => absurd hi (Nat.not_lt_zero i)
  | k + 1, h => thn_R (p := fun r => ∃ x, 0 ≤ x ∧ x ≤ 10000000000 ∧ r = f.R (f.idx x) + t * g.R (g.idx x)) (sm_RG hf hg fun j hj => h j (by omega)) ⟨cut f g k, (cut_bd hf hg (k := k) fun j hj => h j (by omega)).1, h k (by omega), rfl⟩
theorem Rep.V_is {f : Lf} {b : Int} {h : Int → Int} (H : Rep f b h) {i : Nat} (hi : i < f.n) : f.V i = h (f.F i) := by
  rw [← ln_self f i]
  refine H.as i hi _ (Int.le_refl _) ?_
  split
  · rename_i e; exact H.up i e
  · exact (H.nn i hi).2
theorem smH_bd {f g : Lf} (hf : f.OK) (hg : g.OK) {t : Int} (ht : t = -1 ∨ t = 0 ∨ t = 1) {x : Int} (h0 : 0 ≤ x) (hT : x ≤ 10000000000) : -8000000000000000 ≤ smH f g t x ∧ smH f g t x ≤ 8000000000000000 := by
  have a := hf.val_bd h0 hT
  have b := hg.val_bd h0 hT
  have := t_bd (lo := 0) (hi := 4000000000000000) ht (x := g.val x) (by omega) (by omega) (by omega)
  unfold smH; omega
end Lf
/-- the cells of a stretch in a row -/
theorem st_cells {w : World} {B g0 c m k : Nat} {f g : Lf} (h : w.ownsRow B 60 8 (.slice (some ⟨g0, 0, none⟩) m c) m (stL f g m)) (hk : k < m) {j : Nat} (hj : j < 8) {u : Value} (hu : (stC f g k)[j]? = some u) : w.cell? ⟨g0, k * 8 + j, none⟩ = some u :=
  own_cells h ((stL_get f g hk hj).trans hu)
theorem st_row {w W : World} {B g0 c m k : Nat} {f g : Lf} (h : w.ownsRow B 60 8 (.slice (some ⟨g0, 0, none⟩) m c) m (stL f g m)) (hk : k < m) (hb : Below w.heap.size w W) : W.cell? ⟨g0, k * 8, none⟩ = some (.int .i64 (Lf.cut f g k)) ∧ W.cell? ⟨g0, k * 8 + 1, none⟩ = some (.int .i64 (Lf.cut f g (k + 1) - 1)) ∧ W.cell? ⟨g0, k * 8 + 2, none⟩ = some (.int .i64 (Lf.cut f g k)) ∧ W.cell? ⟨g0, k * 8 + 3, none⟩ = some (.int .i64 (f.val (Lf.cut f g k))) ∧ W.cell? ⟨g0, k * 8 + 4, none⟩ = some (.int .i64 (f.R (f.idx (Lf.cut f g k)))) ∧ W.cell? ⟨g0, k * 8 + 5, none⟩ = some (.int .i64 (Lf.cut f g k)) ∧ W.cell? ⟨g0, k * 8 + 6, none⟩ = some (.int .i64 (g.val (Lf.cut f g k))) ∧ W.cell? ⟨g0, k * 8 + 7, none⟩ = some (.int .i64 (g.R (g.idx (Lf.cut f g k)))) :=
  ⟨cell_later hb (st_cells h hk (j := 0) (by omega) rfl), cell_later hb (st_cells h hk (j := 1) (by omega) rfl), cell_later hb (st_cells h hk (j := 2) (by omega) rfl), cell_later hb (st_cells h hk (j := 3) (by omega) rfl), cell_later hb (st_cells h hk (j := 4) (by omega) rfl), cell_later hb (st_cells h hk (j := 5) (by omega) rfl), cell_later hb (st_cells h hk (j := 6) (by omega) rfl), cell_later hb (st_cells h hk (j := 7) (by omega) rfl)⟩
/-- a rate as both functions have it somewhere -/
def Gr (f g : Lf) (t r : Int) : Prop := ∃ x, 0 ≤ x ∧ x ≤ 10000000000 ∧ r = f.R (f.idx x) + t * g.R (g.idx x)
/-- how Add ends, where it is asked of functions -/
def AdP (h : Int → Int) (G : Int → Prop) (n : Nat) (w : World) (e : Ending) (w' : World) : Prop :=
  ∃ s : Lf, Lf.Rep s 10000000001 h ∧ s.n + 1 ≤ n ∧ (∀ i, i < s.n → G (s.R i)) ∧ ((s.chk = 0 ∧ ∃ A c, e = .returned (.tuple #[.slice A s.n c, .int .i64 0]) ∧ Lm w' A s) ∨ (s.chk ≠ 0 ∧ e = .returned (.tuple #[.slice none 0 0, .int .i64 s.chk]))) ∧ Below w.heap.size w w'
set_option maxHeartbeats 4000000 in
set_option maxRecDepth 100000 in
theorem add_ok (A B : Option Addr) (c d : Nat) (f g : Lf) (t : Int) (w : World) (h : Lm w A f) (h2 : Lm w B g) (hf : f.chk = 0) (hg : g.chk = 0) (ht : t = -1 ∨ t = 0 ∨ t = 1) :
    Calls Try.prog 14 #[.slice A f.n c, .slice B g.n d, .int .i64 t] w (AdP (Lf.smH f g t) (Gr f g t) (f.n + g.n) w) := by
  have kf := Lf.chk_zero hf
  have kg := Lf.chk_zero hg
  have cB := both_any A B c d f g w h h2 (by have := kf.n2; omega) (by have := kg.n2; omega)
  rw [show botE f g = 0 by unfold botE; rw [if_pos hf, hg]] at cB
  have d1 : decide (t < -1) = false := by simp; omega
  have d2 : decide (1 < t) = false := by simp; omega
  have HF := Lib.hid (And.intro kf kg)
  have HT := Lib.hid ht
  have HLM := Lib.hid (And.intro h h2)
  clear hf hg ht kf kg h h2
  go_enter Try.func14, Try.ntmps14
  go_wp2_with (fail)
  refine cB.mono ?_
  rintro e w1 ⟨rfl, hb1⟩
  go_wp2_with (fail)
  refine (stretches_any A B c d f g w1 (HLM.out.1.below hb1) (HLM.out.2.below hb1) HF.out.1 HF.out.2).mono ?_
  rintro e w2 ⟨SA, m, sc, rfl, hS, hcut, hend, hmn, hb2⟩
  have B2 := below_step hb1 hb2 hb1.size
  have HCU := Lib.hid (And.intro hcut (And.intro hend hmn))
  have HB2 := Lib.hid B2
  have HSR := Lib.hid hS
  have O0 := own_nil w2 w2.heap.size
  have hself := Below.refl w2.heap.size w2
  clear hcut hend hmn hb1 hb2 B2 hS cB
  go_wp2
  go_loopw [9, 29] (fun s9 s29 W => ∃ k AA cc, k ≤ m ∧ s9 = .slice AA (Lf.smL f g t k).n cc ∧ s29 = .int .i64 (k : Nat) ∧ Own W w2.heap.size AA cc (Lf.smL f g t k) ∧ Below w2.heap.size w2 W) (fun _ s29 _ => m - (intOf s29).toNat)
  case atStart => exact ⟨0, none, 0, Nat.zero_le _, rfl, rfl, O0, hself⟩
  case round =>
    clear O0
    obtain ⟨k, AA, cc, hk, rfl, rfl, hO, hb⟩ := hrel
    by_cases hlt : k < m
    · obtain ⟨A', c', he, _, hg⟩ := own_len HSR.out
      obtain ⟨g0, rfl⟩ := hg (by omega)
      obtain ⟨rfl, _, rfl⟩ := Value.slice.inj he
      clear he hg
      obtain ⟨x0, x1, x2, x3, x4, x5, x6, x7⟩ := st_row HSR.out hlt hb
      have hcT := HCU.out.1 k hlt
      have hcb := Lf.cut_bd HF.out.1.toOrd HF.out.2.toOrd (k := k) fun j hj => HCU.out.1 j (by omega)
      have hR := Lf.sm_rep HF.out.1.toOrd HF.out.2.toOrd HT.out (k := k) fun j hj => HCU.out.1 j (by omega)
      have r1 := HF.out.1.rb _ (HF.out.1.toOrd.idx_bd hcb.1 hcT).1
      have r2 := HF.out.2.rb _ (HF.out.2.toOrd.idx_bd hcb.1 hcT).1
      have v1 := HF.out.1.val_bd hcb.1 hcT
      have v2 := HF.out.2.val_bd hcb.1 hcT
      have tr := Lf.t_bd (lo := 0) (hi := 40000) HT.out (x := g.R (g.idx (Lf.cut f g k))) (by omega) (by omega) (by omega)
      have tv := Lf.t_bd (lo := 0) (hi := 4000000000000000) HT.out (x := g.val (Lf.cut f g k)) (by omega) (by omega) (by omega)
      have hsn := Lf.sm_n f g t k
      have hmb : m ≤ 1000 := by have := HCU.out.2.2; have := HF.out.1.n2; have := HF.out.2.n2; omega
      have hB9 := Below.size hb
      have cT := fun W hO hB => then_any w2.heap.size AA cc (Lf.smL f g t k) (Lf.cut f g k) (f.val (Lf.cut f g k) + t * g.val (Lf.cut f g k)) (f.R (f.idx (Lf.cut f g k)) + t * g.R (g.idx (Lf.cut f g k))) W hO hB (by omega) ⟨hcb.1, hcT⟩ (fun i hi => by have := hR.nn i hi; omega) (Lf.sm_R HF.out.1 HF.out.2 HT.out fun j hj => HCU.out.1 j (by omega)) (fun i hi => by
        rw [hR.V_is hi]
        have := hR.nn i hi
        exact Lf.smH_bd HF.out.1 HF.out.2 HT.out (by omega) (by omega))
      rw [show (Lf.smL f g t k).thn (Lf.cut f g k) (f.val (Lf.cut f g k) + t * g.val (Lf.cut f g k)) (f.R (f.idx (Lf.cut f g k)) + t * g.R (g.idx (Lf.cut f g k))) = Lf.smL f g t (k + 1) from rfl] at cT
      obtain ⟨ty, hty⟩ : ∃ ty, t * g.val (Lf.cut f g k) = ty := ⟨_, rfl⟩
      obtain ⟨tz, htz⟩ : ∃ tz, t * g.R (g.idx (Lf.cut f g k)) = tz := ⟨_, rfl⟩
      rw [hty] at tv
      rw [htz] at tr
      have u1 : IntKind.i64.wrap (t * g.val (Lf.cut f g k)) = ty := (IntWalk.i64_in _ (by omega)).trans hty
      have u2 : IntKind.i64.wrap (t * g.R (g.idx (Lf.cut f g k))) = tz := (IntWalk.i64_in _ (by omega)).trans htz
      have u3 : IntKind.i64.wrap (f.val (Lf.cut f g k) + ty) = f.val (Lf.cut f g k) + ty := IntWalk.i64_in _ (by omega)
      have u4 : IntKind.i64.wrap (f.R (f.idx (Lf.cut f g k)) + tz) = f.R (f.idx (Lf.cut f g k)) + tz := IntWalk.i64_in _ (by omega)
      rw [hty, htz] at cT
      clear hcT hcb hR r1 r2 v1 v2 tr tv hsn hty htz
      have NX := below_new wr (.cells #[.int .i64 (Lf.cut f g k), .int .i64 (Lf.cut f g (k + 1) - 1), .int .i64 (Lf.cut f g k), .int .i64 (f.val (Lf.cut f g k)), .int .i64 (f.R (f.idx (Lf.cut f g k))), .int .i64 (Lf.cut f g k), .int .i64 (g.val (Lf.cut f g k)), .int .i64 (g.R (g.idx (Lf.cut f g k)))] 60)
      have HO := hO.below NX
      have B3 := below_step hb NX hb.size
      clear hb hO
      go_wp2_with (fail)
      refine (cT _ HO B3.size).mono ?_
      rintro e w4 ⟨A4, c4, rfl, O4, hg4, _⟩
      have B4 := B3.grown hg4 B3.size (fun j hj => by
        have := (HO.lt j ((blk_own _ _ _).trans hj)).1
        exact this)
      clear cT HO hg4 B3 NX x0 x1 x2 x3 x4 x5 x6 x7
      go_wp2
      go_round
      case rel => exact ⟨k + 1, _, _, Nat.succ_le_of_lt hlt, rfl, by go_num, O4, B4⟩
      case measure => exact meas_step hlt
    · obtain rfl : k = m := by omega
      have hR := Lf.sm_rep HF.out.1.toOrd HF.out.2.toOrd HT.out (k := k) HCU.out.1
      rw [HCU.out.2.1] at hR
      have hsn := Lf.sm_n f g t k
      have HRE := Lib.hid hR
      have HGE := Lib.hid (show ∀ i, i < (Lf.smL f g t k).n → Gr f g t ((Lf.smL f g t k).R i) from Lf.sm_RG HF.out.1.toOrd HF.out.2.toOrd HCU.out.1)
      have hsz : (Lf.smL f g t k).n + 1 ≤ f.n + g.n := by have := HCU.out.2.2; omega
      have hmb : (Lf.smL f g t k).n ≤ 1000 := by have := HF.out.1.n2; have := HF.out.2.n2; omega
      have HSZ := Lib.hid hsz
      generalize Lf.smL f g t k = s at *
      have cC := checked_any AA cc s wr hO.lm (by omega) s.chk rfl
      clear hR hsn hsz hmb
      go_wp2_with (fail)
      refine cC.mono ?_
      rintro e w5 ⟨h5, h6, hb5⟩
      have B5 := below_step HB2.out (below_step hb hb5 hb.size) HB2.out.size
      have L5 := hO.lm.below hb5
      by_cases hz : s.chk = 0
      · have he := h5 hz
        subst he
        have HR : AdP (Lf.smH f g t) (Gr f g t) (f.n + g.n) w (.returned (.tuple #[.slice AA s.n cc, .int .i64 0])) w5 := ⟨s, HRE.out, HSZ.out, HGE.out, .inl ⟨hz, AA, cc, rfl, L5⟩, B5⟩
        have HRR := Lib.hid HR
        clear HR L5 B5 hO hb hb5 h5 h6 cC hz
        go_wp2
        go_ret2
        exact HRR.out
      · have he := h6 hz
        subst he
        have HR : AdP (Lf.smH f g t) (Gr f g t) (f.n + g.n) w (.returned (.tuple #[.slice none 0 0, .int .i64 s.chk])) w5 := ⟨s, HRE.out, HSZ.out, HGE.out, .inr ⟨hz, rfl⟩, B5⟩
        have HRR := Lib.hid HR
        clear HR L5 B5 hO hb hb5 h5 h6 cC hz
        generalize s.chk = q at *
        go_wp2
        go_ret2
        exact HRR.out
/-- of what is no function, or beyond once more -/
theorem add_bad (A B : Option Addr) (c d : Nat) (f g : Lf) (t : Int) (w : World) (h : Lm w A f) (h2 : Lm w B g) (hn : f.n ≤ 4611686018427387) (hm : g.n ≤ 4611686018427387) (q : Int) (hq : (if botE f g = 0 then (1 : Int) else botE f g) = q) (hb : botE f g ≠ 0 ∨ t < -1 ∨ 1 < t) :
    Calls Try.prog 14 #[.slice A f.n c, .slice B g.n d, .int .i64 t] w fun e w' => e = .returned (.tuple #[.slice none 0 0, .int .i64 q]) ∧ Below w.heap.size w w' := by
  have cB := both_any A B c d f g w h h2 hn hm
  by_cases h0 : botE f g = 0
  · rw [if_pos h0] at hq
    subst hq
    rw [h0] at cB
    have hb' : t < -1 ∨ (¬ t < -1 ∧ 1 < t) := by omega
    clear hb h0
    rcases hb' with d1 | ⟨d1, d2⟩
    · have d1' : decide (t < -1) = true := decide_eq_true d1
      go_enter Try.func14, Try.ntmps14
      go_wp2_with (fail)
      refine cB.mono ?_
      rintro e w1 ⟨rfl, hb1⟩
      go_wp2
      go_ret2
      exact ⟨rfl, hb1⟩
    · have d1' : decide (t < -1) = false := decide_eq_false d1
      have d2' : decide (1 < t) = true := decide_eq_true d2
      go_enter Try.func14, Try.ntmps14
      go_wp2_with (fail)
      refine cB.mono ?_
      rintro e w1 ⟨rfl, hb1⟩
      go_wp2
      go_ret2
      exact ⟨rfl, hb1⟩
  · rw [if_neg h0] at hq
    rw [hq] at cB h0
    have b1 : (q != 0) = true := by simp; exact h0
    clear hb h0 hq
    go_enter Try.func14, Try.ntmps14
    go_wp2_with (fail)
    refine cB.mono ?_
    rintro e w1 ⟨rfl, hb1⟩
    go_wp2
    go_ret2
    exact ⟨rfl, hb1⟩
end Go.Proofs.Ytcldknmhmbpboaa
