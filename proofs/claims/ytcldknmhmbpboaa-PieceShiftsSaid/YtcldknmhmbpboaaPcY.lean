/- What Shift answers of any function. -/
import Derived.Test.YtcldknmhmbpboaaPcX
namespace Go.Proofs.Ytcldknmhmbpboaa
open Go.RowKit Go.Sort
set_option linter.unusedVariables false
set_option linter.unusedSimpArgs false

namespace Lf
theorem ext_bd {f : Lf} (hf : f.OK) {y : Int} (h0 : 0 ≤ y) (hT : y ≤ 20000000000) : -5000000000000000 ≤ f.ext y ∧ f.ext y ≤ 5000000000000000 := by
  unfold ext
  split
  · have := hf.val_bd h0 (by omega); omega
  · have n1 := hf.n1
    have r := hf.rb (f.n - 1) (by omega)
    have v := hf.vb (f.n - 1) (by omega)
    have fb := hf.fb (f.n - 1) (by omega)
    have e := hf.eb (f.n - 1) (by omega)
    have p := prod_bd (d := y - 10000000000) (r := f.R (f.n - 1)) (by omega) (by omega) (by omega) (by omega)
    rw [lst_out (by omega)] at e
    rw [ln_from f (f.n - 1) 10000000000 y]
    omega
theorem sh_chk {f s : Lf} (hf : f.OK) {t : Int} (H : Rep s 10000000001 fun x => f.ext (x + t)) (hR : ∀ i, i < s.n → -40000 ≤ s.R i ∧ s.R i ≤ 40000) (hn : s.n ≤ 256) : s.chk = 0 ∨ s.chk = 10 := by
  rw [H.ord.chk_ok hR hn]
  by_cases h : fst s.stQ s.n = 0
  · exact .inl h
  · obtain ⟨i, hi, h1, h2⟩ := fst_some h
    right
    rw [h1]
    unfold stQ at h2 ⊢
    split
    · rfl
    · rename_i h3
      rw [if_neg h3] at h2
      split
      · rfl
      · rename_i h4
        rw [if_neg h4] at h2
        exact absurd rfl h2
end Lf
theorem held_calls {P : Program} {g : FuncId} {args : Array Value} {Q : Ending → World → Prop} {W : World} (S : World → Prop) (h : S W) (k : ∀ W, S W → Calls P g args W Q) : Calls P g args W Q := k W h
theorem gr_set (W : World) (p i : Nat) (x : Value) : W.grownBy (W.setCell ⟨p, i, none⟩ x) (some p) := ⟨rfl, rfl, rfl, by simp [World.setCell], fun k hk hne => Go.Deep.blk_setCell_other _ _ _ _ (by intro e; exact hne (by rw [e]))⟩
theorem gr_trans {w w1 w2 : World} {o : Option Nat} (h : w.grownBy w1 o) (g : w1.grownBy w2 o) : w.grownBy w2 o :=
  ⟨g.os.trans h.os, g.tape.trans h.tape, g.output.trans h.output, Nat.le_trans h.size g.size, fun k hk hne => (g.block k (Nat.lt_of_lt_of_le hk h.size) hne).trans (h.block k hk hne)⟩
theorem gr_set4 (W : World) (p i j k l : Nat) (x y z u : Value) : W.grownBy ((((W.setCell ⟨p, i, none⟩ x).setCell ⟨p, j, none⟩ y).setCell ⟨p, k, none⟩ z).setCell ⟨p, l, none⟩ u) (some p) := gr_trans (gr_trans (gr_trans (gr_set _ _ _ _) (gr_set _ _ _ _)) (gr_set _ _ _ _)) (gr_set _ _ _ _)
/-- how Shift ends, where it may be asked -/
def ShP (f : Lf) (t : Int) (w : World) (e : Ending) (w' : World) : Prop :=
  ∃ s : Lf, Lf.Rep s 10000000001 (fun x => f.ext (x + t)) ∧ s.n ≤ f.n ∧ (∀ i, i < s.n → -40000 ≤ s.R i ∧ s.R i ≤ 40000) ∧ ((s.chk = 0 ∧ ∃ A c, e = .returned (.tuple #[.slice A s.n c, .int .i64 0]) ∧ Lm w' A s) ∨ (s.chk ≠ 0 ∧ e = .returned (.tuple #[.slice none 0 0, .int .i64 s.chk]))) ∧ Below w.heap.size w w'
set_option maxHeartbeats 4000000 in
set_option maxRecDepth 100000 in
theorem shift_ok (A : Option Addr) (c : Nat) (f : Lf) (t : Int) (w : World) (h : Lm w A f) (hnc : f.n ≤ c) (hf : f.chk = 0) (h0 : 0 ≤ t) (hT : t ≤ 10000000000) :
    Calls Try.prog 22 #[.slice A f.n c, .int .i64 t] w (ShP f t w) := by
  have kf := Lf.chk_zero hf
  have cC := fun W hh => check_any A c f W hh (by have := kf.n2; omega)
  rw [hf] at cC
  have cW := within_any t
  rw [show xB t = true by unfold xB; simp; omega] at cW
  have cF := fun W hh => find_any A c f t W hh kf.toOrd (by have := kf.n2; omega)
  obtain ⟨k1, k2, k3, _⟩ := kf.toOrd.idx_bd h0 hT
  have HF := Lib.hid kf
  have HT := Lib.hid (And.intro h0 hT)
  have H := Lib.hid h
  have hn2 := kf.n2
  obtain ⟨k, hk⟩ : ∃ k, f.idx t = k := ⟨_, rfl⟩
  rw [hk] at cF k1 k2 k3
  have HK := Lib.hid hk
  have hR0 : Lf.Rep (f.sh t 0) (f.shE t 0) fun x => f.ext (x + t) := kf.toOrd.sh_rep h0 hT 0 (by omega)
  obtain ⟨b, o, rfl, _⟩ := id (h (by omega))
  clear hf h kf h0 hT hk k2 k3
  go_enter Try.func22, Try.ntmps22
  go_wp2_with (fail)
  refine (cC _ H.out).mono ?_
  rintro e w1 ⟨rfl, hb1⟩
  go_wp2_with (fail)
  refine (cW _).mono ?_
  rintro e w2 ⟨rfl, hb2⟩
  have B2 := below_step hb1 hb2 hb1.size
  go_wp2_with (fail)
  refine (cF _ (H.out.below B2)).mono ?_
  rintro e w3 ⟨rfl, hb3⟩
  have B3 := below_step B2 hb3 B2.size
  have O0 : Own w3 w3.heap.size none 0 (f.sh t 0) := own_nil w3 w3.heap.size
  have hself := Below.refl w3.heap.size w3
  have s0 : (k : Int) ≤ (c : Int) := by omega
  have s1 : (k : Int) ≤ (f.n : Int) := by omega
  have s2 : 0 ≤ (k : Int) := by omega
  have s3 : ((k : Int)).toNat = k := by omega
  have s4 : ¬ c - k = 0 := by omega
  have s5 : (c : Int) - (k : Int) ≠ 0 := by omega
  have HB3 := Lib.hid B3
  clear cC cW cF hb1 hb2 hb3 B2 B3 hR0
  go_wp2
  go_loopw [7, 24] (fun s7 s24 W => ∃ j AA cc, j ≤ f.n - k ∧ s7 = .slice AA (Lf.n (f.sh t j)) cc ∧ s24 = .int .i64 (j : Nat) ∧ Own W w3.heap.size AA cc (f.sh t j) ∧ Below w3.heap.size w3 W) (fun _ s24 _ => f.n - k - (intOf s24).toNat)
  case atStart => exact ⟨0, none, 0, Nat.zero_le _, rfl, rfl, O0, hself⟩
  case round =>
    clear O0 hself
    obtain ⟨j, AA, cc, hj, rfl, rfl, hO, hb⟩ := hrel
    by_cases hlt : j < f.n - k
    · have hi : k + j < f.n := by omega
      obtain ⟨b5, o5, he5, c0, c1, c2⟩ := lm_at (H.out.below (below_step HB3.out hb HB3.out.size)) hi
      obtain ⟨rfl, rfl⟩ : b = b5 ∧ o = o5 := by simpa using he5
      rw [show o + (k + j) * 3 = o + k * 3 + j * 3 by omega] at c0 c1 c2
      have hfi := HF.out.fb _ hi
      have hri := HF.out.rb _ hi
      have hvi := HF.out.vb _ hi
      have hei := HF.out.eb _ hi
      have hTT := HT.out
      obtain ⟨m, hm⟩ : ∃ m, max (f.F (k + j)) t = m := ⟨_, rfl⟩
      have hm1 : f.F (k + j) ≤ m ∧ t ≤ m ∧ m ≤ 10000000000 := by omega
      have hpb := Lf.prod_bd (d := m - f.F (k + j)) (r := f.R (k + j)) (by omega) (by omega) (by omega) (by omega)
      have cS := fun W => since_any (f.F (k + j)) (f.V (k + j)) (f.R (k + j)) m W (by omega) (by omega) (by omega)
      rw [show f.V (k + j) + (m - f.F (k + j)) * f.R (k + j) = f.ln (k + j) m from rfl] at cS
      have u1 : IntKind.i64.wrap (m - t) = m - t := IntWalk.i64_in _ (by omega)
      have hRj := HF.out.toOrd.sh_rep hTT.1 hTT.2 j (by rw [HK.out]; omega)
      have hEj : f.shE t j ≤ 10000000001 := by
        unfold Lf.shE Lf.shF
        rw [HK.out, if_pos hi]; omega
      have hsn := Lf.sh_n f t j
      have e1 : f.sh t (j + 1) = (f.sh t j).thn (m - t) (f.ln (k + j) m) (f.R (k + j)) := by
        show (f.sh t j).thn (f.shF t (f.idx t + j)) (f.shV t (f.idx t + j)) (f.R (f.idx t + j)) = _
        unfold Lf.shF Lf.shV
        rw [HK.out, hm]
      have cT := fun W hO hB => then_any w3.heap.size AA cc (f.sh t j) (m - t) (f.ln (k + j) m) (f.R (k + j)) W hO hB (by omega) (by omega) (fun q hq => by have := hRj.nn q hq; omega) (fun q hq => by
        have := Lf.sh_R (p := fun r => -40000 ≤ r ∧ r ≤ 40000) HF.out.rb j (by rw [HK.out]; omega) q hq
        omega) (fun q hq => by
        rw [hRj.V_is hq]
        have := hRj.nn q hq
        have := Lf.ext_bd HF.out (y := (f.sh t j).F q + t) (by omega) (by omega)
        omega)
      rw [← e1] at cT
      have KX := bx_new wr [.int .i64 (f.F (k + j)), .int .i64 (f.V (k + j)), .int .i64 (f.R (k + j))] 37
      have NX := below_new wr (.cells #[.int .i64 (f.F (k + j)), .int .i64 (f.V (k + j)), .int .i64 (f.R (k + j))] 37)
      have HO := hO.below NX
      have B3 := below_step hb NX hb.size
      have hpn : ∀ q, blk AA = some q → some q ≠ some wr.heap.size := fun q hq e => by
        have h1 := (hO.lt q ((blk_own _ _ _).trans hq)).2
        have h2 : q = wr.heap.size := Option.some.inj e
        omega
      have hpz : w3.heap.size ≤ wr.heap.size := hb.size
      clear hfi hri hvi hei hTT hm1 hpb hRj hEj hsn e1 hb hO NX
      generalize f.ln (k + j) m = y at *
      go_wp2_with (fail)
      refine (cS _).mono ?_
      rintro e w5 ⟨rfl, hb5⟩
      have K5 := KX.below hb5
      have O5 := HO.below hb5
      have B5 := below_step B3 hb5 B3.size
      have x_0 := K5.cell (i := 0) rfl
      have xf_0 := K5.fr 0
      have x_1 := K5.cell (i := 1) rfl
      have xf_1 := K5.fr 1
      have x_2 := K5.cell (i := 2) rfl
      have xf_2 := K5.fr 2
      clear cS KX HO B3 c0 c1 c2 hb5
      go_wp2_with (fail)
      refine held_calls (fun W => Own W w3.heap.size AA cc (f.sh t j) ∧ Below w3.heap.size w3 W) ⟨own_gr O5 (gr_set4 _ _ _ _ _ _ _ _ _ _) hpn, (((B5.setCell (p := ⟨wr.heap.size, 0, none⟩) hpz _).setCell (p := ⟨wr.heap.size, 1, none⟩) hpz _).setCell (p := ⟨wr.heap.size, 2, none⟩) hpz _).setCell (p := ⟨wr.heap.size, 0, none⟩) hpz _⟩ ?_
      rintro W6 ⟨O6, B6⟩
      refine (cT _ O6 B6.size).mono ?_
      rintro e w7 ⟨A7, c7, rfl, O7, hg7, _⟩
      have B7 := B6.grown hg7 B6.size (fun q hq => (O6.lt q ((blk_own _ _ _).trans hq)).1)
      clear cT O6 hg7 B6 O5 B5 K5 x_0 x_1 x_2 xf_0 xf_1 xf_2
      go_wp2
      go_round
      case rel => exact ⟨j + 1, _, _, Nat.succ_le_of_lt hlt, rfl, by go_num, O7, B7⟩
      case measure => exact meas_step hlt
    · obtain rfl : j = f.n - k := by omega
      have hR := HF.out.toOrd.sh_end HT.out.1 HT.out.2 (k := f.n - k) (by rw [HK.out]; omega)
      have hsn := Lf.sh_n f t (f.n - k)
      have hsR := Lf.sh_R (t := t) (p := fun r => -40000 ≤ r ∧ r ≤ 40000) HF.out.rb (f.n - k) (by rw [HK.out]; omega)
      have HRE := Lib.hid (And.intro hR hsR)
      have hsz : (f.sh t (f.n - k)).n ≤ f.n := by omega
      generalize f.sh t (f.n - k) = s at *
      have cC := checked_any AA cc s wr hO.lm (by omega) s.chk rfl
      clear hR hsn hsR
      go_wp2_with (fail)
      refine cC.mono ?_
      rintro e w5 ⟨h5, h6, hb5⟩
      have B5 := below_step HB3.out (below_step hb hb5 hb.size) HB3.out.size
      have L5 := hO.lm.below hb5
      by_cases hz : s.chk = 0
      · have he := h5 hz
        subst he
        have HR : ShP f t w (.returned (.tuple #[.slice AA s.n cc, .int .i64 0])) w5 := ⟨s, HRE.out.1, hsz, HRE.out.2, .inl ⟨hz, AA, cc, rfl, L5⟩, B5⟩
        have HRR := Lib.hid HR
        clear HR L5 B5 hO hb hb5 h5 h6 cC hz
        go_wp2
        go_ret2
        exact HRR.out
      · have he := h6 hz
        subst he
        have HR : ShP f t w (.returned (.tuple #[.slice none 0 0, .int .i64 s.chk])) w5 := ⟨s, HRE.out.1, hsz, HRE.out.2, .inr ⟨hz, rfl⟩, B5⟩
        have HRR := Lib.hid HR
        clear HR L5 B5 hO hb hb5 h5 h6 cC hz
        generalize s.chk = q at *
        go_wp2
        go_ret2
        exact HRR.out
/-- of what is no function, or by what may not be -/
theorem shift_bad (A : Option Addr) (c : Nat) (f : Lf) (t : Int) (w : World) (h : Lm w A f) (hn : f.n ≤ 4611686018427387) (q : Int) (hq : (if f.chk = 0 then (1 : Int) else f.chk) = q) (hb : f.chk ≠ 0 ∨ t < 0 ∨ 10000000000 < t) :
    Calls Try.prog 22 #[.slice A f.n c, .int .i64 t] w fun e w' => e = .returned (.tuple #[.slice none 0 0, .int .i64 q]) ∧ Below w.heap.size w w' := by
  have cC := check_any A c f w h (by omega)
  by_cases h0 : f.chk = 0
  · rw [if_pos h0] at hq
    subst hq
    rw [h0] at cC
    have cW := within_any t
    rw [show xB t = false by unfold xB; simp; omega] at cW
    clear hb h0
    go_enter Try.func22, Try.ntmps22
    go_wp2_with (fail)
    refine cC.mono ?_
    rintro e w1 ⟨rfl, hb1⟩
    go_wp2_with (fail)
    refine (cW _).mono ?_
    rintro e w2 ⟨rfl, hb2⟩
    have B2 := below_step hb1 hb2 hb1.size
    go_wp2
    go_ret2
    exact ⟨rfl, B2⟩
  · rw [if_neg h0] at hq
    rw [hq] at cC h0
    have b1 : (q != 0) = true := by simp; exact h0
    clear hb h0 hq
    go_enter Try.func22, Try.ntmps22
    go_wp2_with (fail)
    refine cC.mono ?_
    rintro e w1 ⟨rfl, hb1⟩
    go_wp2
    go_ret2
    exact ⟨rfl, hb1⟩
end Go.Proofs.Ytcldknmhmbpboaa
