/- What Least and Greatest answer of any functions. -/
import Derived.Test.YtcldknmhmbpboaaPcL
namespace Go.Proofs.Ytcldknmhmbpboaa
open Go.RowKit Go.Sort
set_option linter.unusedVariables false
set_option linter.unusedSimpArgs false

namespace Lf
def pkH (f g : Lf) (sg : Int) (x : Int) : Int := pick sg (f.val x) (g.val x)
/-- with the first i pieces of another one -/
def ap (s q : Lf) : Nat → Lf
  | 0 => s
  | i + 1 => (ap s q i).thn (q.F i) (q.V i) (q.R i)
def bn (q : Lf) (e : Int) (i : Nat) : Int := if i < q.n then q.F i else e + 1
theorem Seg.congr {q : Lf} {a e r s : Int} {h h' : Int → Int} (S : Seg q a e r s h) (hh : ∀ x, a ≤ x → x ≤ e → h x = h' x) (hae : a ≤ e) : Seg q a e r s h' := by
  refine ⟨S.n, S.z, S.up, fun i hi x p t => ?_, S.rt⟩
  rw [S.as i hi x p t]
  have z := S.z
  rcases S.n with hn | hn
  · rw [if_neg (by omega)] at t
    obtain rfl : i = 0 := by omega
    exact hh x (by omega) t
  · have u := S.up hn
    by_cases e0 : i = 0
    · subst e0
      rw [if_pos (by omega)] at t
      have t' : x ≤ q.F 1 - 1 := t
      exact hh x (by omega) (by omega)
    · obtain rfl : i = 1 := by omega
      rw [if_neg (by omega)] at t
      exact hh x (by omega) t
theorem Seg.ap_rep {q f : Lf} {a e r s : Int} {h : Int → Int} (S : Seg q a e r s h) (hae : a ≤ e) (h0 : 0 ≤ a) (H : Rep f a h) {i : Nat} (hi : i ≤ q.n) : Rep (f.ap q i) (bn q e i) h := by
  obtain ⟨r1, r2⟩ := S.rep hae h0 H
  rcases S.n with hn | hn
  · rcases (show i = 0 ∨ i = 1 by omega) with rfl | rfl
    · unfold bn; rw [if_pos (by omega), S.z]; exact H
    · unfold bn; rw [if_neg (by omega)]; exact r1 hn
  · obtain ⟨r3, r4⟩ := r2 hn
    rcases (show i = 0 ∨ i = 1 ∨ i = 2 by omega) with rfl | rfl | rfl
    · unfold bn; rw [if_pos (by omega), S.z]; exact H
    · unfold bn; rw [if_pos (by omega)]; exact r3
    · unfold bn; rw [if_neg (by omega)]; exact r4
theorem ap_n (s q : Lf) : ∀ i, (s.ap q i).n ≤ s.n + i
  | 0 => Nat.le_refl _
  | i + 1 => Nat.le_trans (thn_n _ _ _ _) (by have := ap_n s q i; omega)
theorem ap_R {s q : Lf} {p : Int → Prop} (h : ∀ i, i < s.n → p (s.R i)) (hq : ∀ i, i < q.n → p (q.R i)) : ∀ k, k ≤ q.n → ∀ i, i < (s.ap q k).n → p ((s.ap q k).R i)
  | 0, _ => h
  | k + 1, hk => thn_R (ap_R h hq k (by omega)) (hq k (by omega))
theorem thn_P {P : Int → Int → Int → Prop} {f : Lf} {a v r : Int} (h : ∀ i, i < f.n → P (f.F i) (f.V i) (f.R i)) (hr : P a v r) : ∀ i, i < (f.thn a v r).n → P ((f.thn a v r).F i) ((f.thn a v r).V i) ((f.thn a v r).R i) := by
  unfold thn
  split
  · exact h
  · intro i hi
    by_cases e : i = f.n
    · obtain ⟨n1, n2, n3, _⟩ := f.pu_new a v r
      rw [e, n1, n2, n3]; exact hr
    · have hi' : i < f.n + 1 := hi
      obtain ⟨n1, n2, n3, _⟩ := f.pu_old a v r (show i < f.n by omega)
      rw [n1, n2, n3]; exact h i (by omega)
theorem ap_P {P : Int → Int → Int → Prop} {s q : Lf} (h : ∀ i, i < s.n → P (s.F i) (s.V i) (s.R i)) (hq : ∀ i, i < q.n → P (q.F i) (q.V i) (q.R i)) : ∀ k, k ≤ q.n → ∀ i, i < (s.ap q k).n → P ((s.ap q k).F i) ((s.ap q k).V i) ((s.ap q k).R i)
  | 0, _ => h
  | k + 1, hk => thn_P (ap_P h hq k (by omega)) (hq k (by omega))
/-- a piece goes as one of two functions does there -/
def Gs (f g : Lf) (x v r : Int) : Prop := (v = f.val x ∧ r = f.R (f.idx x)) ∨ (v = g.val x ∧ r = g.R (g.idx x))
theorem Seg.F_bd {q : Lf} {a e r s : Int} {h : Int → Int} (S : Seg q a e r s h) (hae : a ≤ e) {i : Nat} (hi : i < q.n) : a ≤ q.F i ∧ q.F i ≤ e := by
  have z := S.z
  rcases S.n with hn | hn
  · obtain rfl : i = 0 := by omega
    omega
  · have u := S.up hn
    rcases (show i = 0 ∨ i = 1 by omega) with rfl | rfl <;> omega
theorem Seg.V_is {q : Lf} {a e r s : Int} {h : Int → Int} (S : Seg q a e r s h) (hae : a ≤ e) {i : Nat} (hi : i < q.n) : q.V i = h (q.F i) := by
  rw [← ln_self q i]
  refine S.as i hi _ (Int.le_refl _) ?_
  split
  · rename_i e1
    rcases S.n with hn | hn
    · omega
    · obtain rfl : i = 0 := by omega
      have u := S.up hn
      have z := S.z
      show q.F 0 ≤ q.F 1 - 1
      omega
  · exact (S.F_bd hae hi).2
end Lf
abbrev sgLeast : Int := 1
abbrev sgGreatest : Int := -1
theorem Lm.grown {w w' : World} {g : Nat} {o : Option Nat} {q : Lf} (h : Lm w (some ⟨g, 0, none⟩) q) (hg : w.grownBy w' o) (hne : some g ≠ o) : Lm w' (some ⟨g, 0, none⟩) q := fun hn => by
  obtain ⟨b, o', e, hc⟩ := h hn
  obtain ⟨rfl, rfl⟩ : g = b ∧ 0 = o' := by simpa using e
  exact ⟨g, 0, rfl, fun i hi => ⟨hg.cell (hc i hi).1 hne, hg.cell (hc i hi).2.1 hne, hg.cell (hc i hi).2.2 hne⟩⟩
/-- how choose ends, where it is asked of functions -/
def CsP (h : Int → Int) (G : Int → Int → Int → Prop) (n : Nat) (w : World) (e : Ending) (w' : World) : Prop :=
  ∃ s : Lf, Lf.Rep s 10000000001 h ∧ s.n + 2 ≤ 2 * n ∧ (∀ i, i < s.n → -40000 ≤ s.R i ∧ s.R i ≤ 40000) ∧ (∀ i, i < s.n → G (s.F i) (s.V i) (s.R i)) ∧ ((s.chk = 0 ∧ ∃ A c, e = .returned (.tuple #[.slice A s.n c, .int .i64 0]) ∧ Lm w' A s) ∨ (s.chk ≠ 0 ∧ e = .returned (.tuple #[.slice none 0 0, .int .i64 s.chk]))) ∧ Below w.heap.size w w'
/-- what the outer loop holds -/
def CsI (f g : Lf) (sg : Int) (w2 : World) (k : Nat) (s : Lf) (AA : Option Addr) (cc : Nat) (W : World) : Prop :=
  Own W w2.heap.size AA cc s ∧ Lf.Rep s (Lf.cut f g k) (Lf.pkH f g sg) ∧ s.n ≤ 2 * k ∧ (∀ i, i < s.n → -40000 ≤ s.R i ∧ s.R i ≤ 40000) ∧ (∀ i, i < s.n → Lf.Gs f g (s.F i) (s.V i) (s.R i)) ∧ Below w2.heap.size w2 W
set_option maxHeartbeats 4000000 in
set_option maxRecDepth 100000 in
theorem choose_ok (A B : Option Addr) (c d : Nat) (f g : Lf) (sg : Int) (w : World) (h : Lm w A f) (h2 : Lm w B g) (hf : f.chk = 0) (hg : g.chk = 0) (hs : sg = 1 ∨ sg = -1) :
    Calls Try.prog 34 #[.slice A f.n c, .slice B g.n d, .int .i64 sg] w (CsP (Lf.pkH f g sg) (Lf.Gs f g) (f.n + g.n) w) := by
  have kf := Lf.chk_zero hf
  have kg := Lf.chk_zero hg
  have cB := both_any A B c d f g w h h2 (by have := kf.n2; omega) (by have := kg.n2; omega)
  rw [show botE f g = 0 by unfold botE; rw [if_pos hf, hg]] at cB
  have HF := Lib.hid (And.intro kf kg)
  have HT := Lib.hid hs
  have HLM := Lib.hid (And.intro h h2)
  clear hf hg hs kf kg h h2
  go_enter Try.func34, Try.ntmps34
  go_wp2_with (fail)
  refine cB.mono ?_
  rintro e w1 ⟨rfl, hb1⟩
  go_wp2_with (fail)
  refine (stretches_any A B c d f g w1 (HLM.out.1.below hb1) (HLM.out.2.below hb1) HF.out.1 HF.out.2).mono ?_
  rintro e w2 ⟨SA, m, sc, rfl, hS, hcut, hend, hmn, hb2⟩
  have B2 := below_step hb1 hb2 hb1.size
  have HCU := Lib.hid (And.intro hcut (And.intro hend hmn))
  have HB2 := Lib.hid B2
  have HSR := Lib.hid hS
  have O0 : CsI f g sg w2 0 Lf.emp none 0 w2 := ⟨own_nil w2 w2.heap.size, Lf.rep_emp _, Nat.le_refl _, fun i hi => absurd hi (Nat.not_lt_zero i), fun i hi => absurd hi (Nat.not_lt_zero i), Below.refl _ _⟩
  have HMB := Lib.hid (show m ≤ 1000 by have := HCU.out.2.2; have := HF.out.1.n2; have := HF.out.2.n2; omega)
  have hmb := HMB.out
  clear hcut hend hmn hb1 hb2 B2 hS cB
  go_wp2
  go_loopw [9, 24] (fun s9 s24 W => ∃ k s AA cc, k ≤ m ∧ s9 = .slice AA (Lf.n s) cc ∧ s24 = .int .i64 (k : Nat) ∧ CsI f g sg w2 k s AA cc W) (fun _ s24 _ => m - (intOf s24).toNat)
  case atStart => exact ⟨0, Lf.emp, none, 0, Nat.zero_le _, rfl, rfl, O0⟩
  case round =>
    clear O0
    obtain ⟨k, s, AA, cc, hk, rfl, rfl, hI⟩ := hrel
    by_cases hlt : k < m
    · obtain ⟨A', c', he, _, hg⟩ := own_len HSR.out
      obtain ⟨g0, rfl⟩ := hg (by omega)
      obtain ⟨rfl, _, rfl⟩ := Value.slice.inj he
      clear he hg
      obtain ⟨x0, x1, x2, x3, x4, x5, x6, x7⟩ := st_row HSR.out hlt hI.2.2.2.2.2
      have hcT := HCU.out.1 k hlt
      have hcb := Lf.cut_bd HF.out.1.toOrd HF.out.2.toOrd (k := k) fun j hj => HCU.out.1 j (by omega)
      obtain ⟨e1, e2, e3, e4⟩ := Lf.ce_bd HF.out.1.toOrd HF.out.2.toOrd hcb.1 hcT
      have r1 := HF.out.1.rb _ (HF.out.1.toOrd.idx_bd hcb.1 hcT).1
      have r2 := HF.out.2.rb _ (HF.out.2.toOrd.idx_bd hcb.1 hcT).1
      have v1 := HF.out.1.val_bd hcb.1 hcT
      have v2 := HF.out.2.val_bd hcb.1 hcT
      have o1 := (HF.out.1.toOrd.over hcb.1 hcT e1 e3).2
      have o2 := (HF.out.2.toOrd.over hcb.1 hcT e1 e4).2
      have y1 := HF.out.1.val_bd (x := Lf.ce f g (Lf.cut f g k)) (by omega) e2
      have y2 := HF.out.2.val_bd (x := Lf.ce f g (Lf.cut f g k)) (by omega) e2
      rw [o1] at y1
      rw [o2] at y2
      have hcs : Lf.cut f g (k + 1) - 1 = Lf.ce f g (Lf.cut f g k) := by rw [Lf.cut_succ]; omega
      rw [hcs] at x1
      have cC := fun W => schoose_any sg (Lf.cut f g k) (Lf.ce f g (Lf.cut f g k)) (f.val (Lf.cut f g k)) (f.R (f.idx (Lf.cut f g k))) (g.val (Lf.cut f g k)) (g.R (g.idx (Lf.cut f g k))) W HT.out hcb.1 e1 e2 r1 r2 v1 v2 y1 y2
      have HV := Lib.hid (show ∀ x, Lf.cut f g k ≤ x → x ≤ Lf.ce f g (Lf.cut f g k) → Lf.pick sg (f.val (Lf.cut f g k) + (x - Lf.cut f g k) * f.R (f.idx (Lf.cut f g k))) (g.val (Lf.cut f g k) + (x - Lf.cut f g k) * g.R (g.idx (Lf.cut f g k))) = Lf.pkH f g sg x from fun x p q => by
        unfold Lf.pkH
        rw [(HF.out.1.toOrd.over hcb.1 hcT p (by omega)).2, (HF.out.2.toOrd.over hcb.1 hcT p (by omega)).2])
      have HOV := Lib.hid (show ∀ x, Lf.cut f g k ≤ x → x ≤ Lf.ce f g (Lf.cut f g k) → (f.idx x = f.idx (Lf.cut f g k) ∧ f.val x = f.val (Lf.cut f g k) + (x - Lf.cut f g k) * f.R (f.idx (Lf.cut f g k))) ∧ (g.idx x = g.idx (Lf.cut f g k) ∧ g.val x = g.val (Lf.cut f g k) + (x - Lf.cut f g k) * g.R (g.idx (Lf.cut f g k))) from fun x p q => ⟨HF.out.1.toOrd.over hcb.1 hcT p (by omega), HF.out.2.toOrd.over hcb.1 hcT p (by omega)⟩)
      have HCE := Lib.hid (And.intro hcb.1 (And.intro e1 (And.intro e2 (show Lf.cut f g (k + 1) = Lf.ce f g (Lf.cut f g k) + 1 from rfl))))
      have HRR := Lib.hid (And.intro r1 r2)
      clear hcT hcb e1 e2 e3 e4 r1 r2 v1 v2 o1 o2 y1 y2 hcs
      have NX := below_new wr (.cells #[.int .i64 (Lf.cut f g k), .int .i64 (Lf.ce f g (Lf.cut f g k)), .int .i64 (Lf.cut f g k), .int .i64 (f.val (Lf.cut f g k)), .int .i64 (f.R (f.idx (Lf.cut f g k))), .int .i64 (Lf.cut f g k), .int .i64 (g.val (Lf.cut f g k)), .int .i64 (g.R (g.idx (Lf.cut f g k)))] 60)
      have HO := hI.1.below NX
      have B3 := below_step hI.2.2.2.2.2 NX hI.2.2.2.2.2.size
      have HI := Lib.hid hI.2
      clear hI
      go_wp2_with (fail)
      with_reducible refine (cC _).mono ?_
      rintro e w4 ⟨q, gq, cq, SG, LK, rfl, hgq, hLq, hb4⟩
      replace SG := SG.congr HV.out HCE.out.2.1
      have O4 := HO.below hb4
      have B4 := below_step B3 hb4 B3.size
      have hne : blk AA ≠ some gq := fun e => by
        have := (HO.lt gq ((blk_own _ _ _).trans e)).2
        omega
      have hq2 : q.n ≤ 2 := by rcases SG.n with h | h <;> omega
      have HSG := Lib.hid SG
      have HGS := Lib.hid (show ∀ i, i < q.n → Lf.Gs f g (q.F i) (q.V i) (q.R i) from fun i hi => by
        have fb := SG.F_bd HCE.out.2.1 hi
        obtain ⟨o1, o2⟩ := HOV.out _ fb.1 fb.2
        rcases LK i hi with ⟨l1, l2⟩ | ⟨l1, l2⟩
        · exact .inl ⟨l2.trans o1.2.symm, by rw [o1.1]; exact l1⟩
        · exact .inr ⟨l2.trans o2.2.symm, by rw [o2.1]; exact l1⟩)
      clear LK
      clear SG x0 x1 x2 x3 x4 x5 x6 x7 cC HO B3 NX hb4 hgq
      go_wp2
      go_loopw [9, 32] (fun s9 s32 W => ∃ i AA cc, i ≤ q.n ∧ s9 = .slice AA (Lf.n (s.ap q i)) cc ∧ s32 = .int .i64 (i : Nat) ∧ Own W w2.heap.size AA cc (s.ap q i) ∧ Lm W (some ⟨gq, 0, none⟩) q ∧ blk AA ≠ some gq ∧ Below w2.heap.size w2 W) (fun _ s32 _ => q.n - (intOf s32).toNat)
      case atStart => exact ⟨0, AA, cc, Nat.zero_le _, rfl, rfl, O4, hLq, hne, B4⟩
      case round =>
        clear O4 hLq hne B4
        obtain ⟨i, A5, c5, hi, rfl, rfl, hO, hL, hne, hb⟩ := hrel
        by_cases hit : i < q.n
        · obtain ⟨b5, o5, he5, c0, c1, c2⟩ := lm_at hL hit
          obtain ⟨rfl, rfl⟩ : gq = b5 ∧ 0 = o5 := by simpa using he5
          rw [Nat.zero_add] at c0 c1 c2
          have NX := below_new wr (.cells #[.int .i64 (q.F i), .int .i64 (q.V i), .int .i64 (q.R i)] 37)
          have HO := hO.below NX
          have HL := hL.below NX
          have B3 := below_step hb NX hb.size
          have HR := HSG.out.ap_rep HCE.out.2.1 HCE.out.1 HI.out.1 hi
          have hFq := HSG.out.F_bd HCE.out.2.1 hit
          have hbn : Lf.bn q (Lf.ce f g (Lf.cut f g k)) i ≤ 10000000001 := by
            have := HCE.out.2.2.1
            unfold Lf.bn; rw [if_pos hit]; omega
          have hqR : ∀ j, j < q.n → -40000 ≤ q.R j ∧ q.R j ≤ 40000 := fun j hj => by
            rcases HSG.out.rt j hj with e | e <;> rw [e]
            · exact HRR.out.1
            · exact HRR.out.2
          have hsn := Lf.ap_n s q i
          have hsk := HI.out.2.1
          have hgl : gq < (wr.alloc (.cells #[.int .i64 (q.F i), .int .i64 (q.V i), .int .i64 (q.R i)] 37)).heap.size := by
            have h1 : gq < wr.heap.size := World.block_lt_of_cell? _ _ c0
            exact Nat.lt_of_lt_of_le h1 NX.size
          have cT := then_any w2.heap.size A5 c5 (s.ap q i) (q.F i) (q.V i) (q.R i) _ HO B3.size (by omega) (by have := HCE.out; omega) (fun j hj => by have := HR.nn j hj; omega) (fun j hj => by
            have := Lf.ap_R (p := fun r => -40000 ≤ r ∧ r ≤ 40000) HI.out.2.2.1 hqR i hi j hj
            omega) (fun j hj => by
            rw [HR.V_is hj]
            have := HR.nn j hj
            have p1 := HF.out.1.val_bd (x := (s.ap q i).F j) (by omega) (by omega)
            have p2 := HF.out.2.val_bd (x := (s.ap q i).F j) (by omega) (by omega)
            have := Lf.pick_bd (sg := sg) p1.1 p1.2 p2.1 p2.2
            unfold Lf.pkH
            omega)
          rw [show (s.ap q i).thn (q.F i) (q.V i) (q.R i) = s.ap q (i + 1) from rfl] at cT
          have HNE := Lib.hid (And.intro hne hgl)
          clear HR hFq hbn hqR hsn hsk hO hL hb hne hgl
          go_wp2_with (fail)
          with_reducible refine cT.mono ?_
          rintro e w6 ⟨A6, c6, rfl, O6, hg6, hat6⟩
          have HL6 := HL.grown hg6 (fun e => HNE.out.1 e.symm)
          have B6 := B3.grown hg6 B3.size (fun j hj => (HO.lt j ((blk_own _ _ _).trans hj)).1)
          have hne6 : blk A6 ≠ some gq := fun e => by
            rcases hat6 with e1 | ⟨g6, e1, e2⟩
            · exact HNE.out.1 (e1.symm.trans e)
            · rw [e1] at e
              have := HNE.out.2
              have : g6 = gq := by simpa using e
              omega
          clear cT HO HL B3 NX hg6 hat6 c0 c1 c2 HNE
          go_wp2
          go_round
          case rel => exact ⟨i + 1, _, _, Nat.succ_le_of_lt hit, rfl, by go_num, O6, HL6, hne6, B6⟩
          case measure => exact meas_step hit
        · obtain rfl : i = q.n := by omega
          have HR := HSG.out.ap_rep HCE.out.2.1 HCE.out.1 HI.out.1 (Nat.le_refl q.n)
          unfold Lf.bn at HR
          rw [if_neg (Nat.lt_irrefl _), ← HCE.out.2.2.2] at HR
          have hsn := Lf.ap_n s q q.n
          have hsk := HI.out.2.1
          have hqR : ∀ j, j < q.n → -40000 ≤ q.R j ∧ q.R j ≤ 40000 := fun j hj => by
            rcases HSG.out.rt j hj with e | e <;> rw [e]
            · exact HRR.out.1
            · exact HRR.out.2
          have hRR := Lf.ap_R (p := fun r => -40000 ≤ r ∧ r ≤ 40000) HI.out.2.2.1 hqR q.n (Nat.le_refl _)
          have hGG := Lf.ap_P (P := Lf.Gs f g) HI.out.2.2.2.1 HGS.out q.n (Nat.le_refl _)
          have HN : CsI f g sg w2 (k + 1) (s.ap q q.n) A5 c5 wr := ⟨hO, HR, by omega, hRR, hGG, hb⟩
          have HNN := Lib.hid HN
          clear HR hsn hsk hqR hRR hGG HN hO hL hne hb
          go_wp2
          go_round
          case rel => exact ⟨k + 1, _, _, _, Nat.succ_le_of_lt hlt, rfl, by go_num, HNN.out⟩
          case measure => exact meas_step hlt
    · obtain rfl : k = m := by omega
      obtain ⟨hO, hR, hn, hRb, hGb, hb⟩ := hI
      rw [HCU.out.2.1] at hR
      have hsz : s.n + 2 ≤ 2 * (f.n + g.n) := by have := HCU.out.2.2; omega
      have HRE := Lib.hid (And.intro hR (And.intro hsz (And.intro hRb hGb)))
      have cC := checked_any AA cc s wr hO.lm (by omega) s.chk rfl
      clear hR hsz hn hRb hGb
      go_wp2_with (fail)
      refine cC.mono ?_
      rintro e w5 ⟨h5, h6, hb5⟩
      have B5 := below_step HB2.out (below_step hb hb5 hb.size) HB2.out.size
      have L5 := hO.lm.below hb5
      by_cases hz : s.chk = 0
      · have he := h5 hz
        subst he
        have HR : CsP (Lf.pkH f g sg) (Lf.Gs f g) (f.n + g.n) w (.returned (.tuple #[.slice AA s.n cc, .int .i64 0])) w5 := ⟨s, HRE.out.1, HRE.out.2.1, HRE.out.2.2.1, HRE.out.2.2.2, .inl ⟨hz, AA, cc, rfl, L5⟩, B5⟩
        have HRR := Lib.hid HR
        clear HR L5 B5 hO hb hb5 h5 h6 cC hz
        go_wp2
        go_ret2
        exact HRR.out
      · have he := h6 hz
        subst he
        have HR : CsP (Lf.pkH f g sg) (Lf.Gs f g) (f.n + g.n) w (.returned (.tuple #[.slice none 0 0, .int .i64 s.chk])) w5 := ⟨s, HRE.out.1, HRE.out.2.1, HRE.out.2.2.1, HRE.out.2.2.2, .inr ⟨hz, rfl⟩, B5⟩
        have HRR := Lib.hid HR
        clear HR L5 B5 hO hb hb5 h5 h6 cC hz
        generalize s.chk = qq at *
        go_wp2
        go_ret2
        exact HRR.out
theorem choose_bad (A B : Option Addr) (c d : Nat) (f g : Lf) (sg : Int) (w : World) (h : Lm w A f) (h2 : Lm w B g) (hn : f.n ≤ 4611686018427387) (hm : g.n ≤ 4611686018427387) (hb : botE f g ≠ 0) :
    Calls Try.prog 34 #[.slice A f.n c, .slice B g.n d, .int .i64 sg] w fun e w' => e = .returned (.tuple #[.slice none 0 0, .int .i64 (botE f g)]) ∧ Below w.heap.size w w' := by
  have cB := both_any A B c d f g w h h2 hn hm
  have b1 : (botE f g != 0) = true := by simp; exact hb
  clear hb
  generalize botE f g = q at *
  go_enter Try.func34, Try.ntmps34
  go_wp2_with (fail)
  refine cB.mono ?_
  rintro e w1 ⟨rfl, hb1⟩
  go_wp2
  go_ret2
  exact ⟨rfl, hb1⟩
theorem Least_any (A B : Option Addr) (c d : Nat) (f g : Lf) (w : World) (T : Ending → World → Prop) (h : Calls Try.prog 34 #[.slice A f.n c, .slice B g.n d, .int .i64 (sgLeast)] w fun e w' => T e w' ∧ ∃ u v, e = .returned (.tuple #[u, v])) :
    Calls Try.prog 16 #[.slice A f.n c, .slice B g.n d] w T := by
  go_enter Try.func16, Try.ntmps16
  go_wp2_with (fail)
  refine h.mono ?_
  rintro e w1 ⟨hT, u, v, rfl⟩
  have HT := Lib.hid hT
  clear hT
  go_wp2
  exact HT.out
theorem Greatest_any (A B : Option Addr) (c d : Nat) (f g : Lf) (w : World) (T : Ending → World → Prop) (h : Calls Try.prog 34 #[.slice A f.n c, .slice B g.n d, .int .i64 (sgGreatest)] w fun e w' => T e w' ∧ ∃ u v, e = .returned (.tuple #[u, v])) :
    Calls Try.prog 17 #[.slice A f.n c, .slice B g.n d] w T := by
  go_enter Try.func17, Try.ntmps17
  go_wp2_with (fail)
  refine h.mono ?_
  rintro e w1 ⟨hT, u, v, rfl⟩
  have HT := Lib.hid hT
  clear hT
  go_wp2
  exact HT.out
theorem CsP.tup {h : Int → Int} {G : Int → Int → Int → Prop} {n : Nat} {w : World} {e : Ending} {w' : World} (H : CsP h G n w e w') : ∃ u v, e = .returned (.tuple #[u, v]) := by
  obtain ⟨s, _, _, _, _, ⟨_, A, c, he, _⟩ | ⟨_, he⟩, _⟩ := H
  · exact ⟨_, _, he⟩
  · exact ⟨_, _, he⟩
theorem least_ok (A B : Option Addr) (c d : Nat) (f g : Lf) (w : World) (h : Lm w A f) (h2 : Lm w B g) (hf : f.chk = 0) (hg : g.chk = 0) :
    Calls Try.prog 16 #[.slice A f.n c, .slice B g.n d] w (CsP (Lf.pkH f g 1) (Lf.Gs f g) (f.n + g.n) w) :=
  Least_any A B c d f g w _ ((choose_ok A B c d f g 1 w h h2 hf hg (.inl rfl)).mono fun e w' H => ⟨H, H.tup⟩)
theorem greatest_ok (A B : Option Addr) (c d : Nat) (f g : Lf) (w : World) (h : Lm w A f) (h2 : Lm w B g) (hf : f.chk = 0) (hg : g.chk = 0) :
    Calls Try.prog 17 #[.slice A f.n c, .slice B g.n d] w (CsP (Lf.pkH f g (-1)) (Lf.Gs f g) (f.n + g.n) w) :=
  Greatest_any A B c d f g w _ ((choose_ok A B c d f g (-1) w h h2 hf hg (.inr rfl)).mono fun e w' H => ⟨H, H.tup⟩)
theorem Least_bad (A B : Option Addr) (c d : Nat) (f g : Lf) (w : World) (h : Lm w A f) (h2 : Lm w B g) (hn : f.n ≤ 4611686018427387) (hm : g.n ≤ 4611686018427387) (hb : botE f g ≠ 0) :
    Calls Try.prog 16 #[.slice A f.n c, .slice B g.n d] w fun e w' => e = .returned (.tuple #[.slice none 0 0, .int .i64 (botE f g)]) ∧ Below w.heap.size w w' :=
  Least_any A B c d f g w _ ((choose_bad A B c d f g _ w h h2 hn hm hb).mono fun e w' H => ⟨H, _, _, H.1⟩)
theorem Greatest_bad (A B : Option Addr) (c d : Nat) (f g : Lf) (w : World) (h : Lm w A f) (h2 : Lm w B g) (hn : f.n ≤ 4611686018427387) (hm : g.n ≤ 4611686018427387) (hb : botE f g ≠ 0) :
    Calls Try.prog 17 #[.slice A f.n c, .slice B g.n d] w fun e w' => e = .returned (.tuple #[.slice none 0 0, .int .i64 (botE f g)]) ∧ Below w.heap.size w w' :=
  Greatest_any A B c d f g w _ ((choose_bad A B c d f g _ w h h2 hn hm hb).mono fun e w' H => ⟨H, _, _, H.1⟩)
theorem Lf.pkH_bd {f g : Lf} (hf : f.OK) (hg : g.OK) {sg x : Int} (h0 : 0 ≤ x) (hT : x ≤ 10000000000) : -4000000000000000 ≤ Lf.pkH f g sg x ∧ Lf.pkH f g sg x ≤ 4000000000000000 := by
  have a := hf.val_bd h0 hT
  have b := hg.val_bd h0 hT
  exact Lf.pick_bd a.1 a.2 b.1 b.2
/-- what may be wrong with the chosen function: it may be too long alone -/
theorem Lf.pk_chk {f g s : Lf} (hf : f.OK) (hg : g.OK) {sg : Int} (H : Lf.Rep s 10000000001 (Lf.pkH f g sg)) (hR : ∀ i, i < s.n → -40000 ≤ s.R i ∧ s.R i ≤ 40000) : s.chk = if 256 < s.n then 2 else 0 := by
  split
  · rename_i h; exact Lf.chk_size (.inr h)
  · rename_i h; exact H.chk_ok hR (fun x h0 hT => Lf.pkH_bd hf hg h0 hT) (by omega)
end Go.Proofs.Ytcldknmhmbpboaa
