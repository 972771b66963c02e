/- Add once more, with the room of its answer. -/
import Derived.Test.YtcldknmhmbpboaaPcV
namespace Go.Proofs.Ytcldknmhmbpboaa
open Go.RowKit Go.Sort
set_option linter.unusedVariables false
set_option linter.unusedSimpArgs false
theorem Own.cap {w : World} {B : Nat} {A : Option Addr} {c : Nat} {f : Lf} (h : Own w B A c f) : f.n ≤ c := by
  rcases h.2 with ⟨hv, h0⟩ | ⟨g, cap, cur, hv, _, _, hn, _⟩
  · omega
  · obtain ⟨_, _, rfl⟩ := Value.slice.inj hv
    exact hn
/-- how Add ends, its room told too -/
def AdQ (h : Int → Int) (G : Int → Prop) (n : Nat) (w : World) (e : Ending) (w' : World) : Prop :=
  ∃ s : Lf, Lf.Rep s 10000000001 h ∧ s.n + 1 ≤ n ∧ (∀ i, i < s.n → G (s.R i)) ∧ ((s.chk = 0 ∧ ∃ A c, e = .returned (.tuple #[.slice A s.n c, .int .i64 0]) ∧ Lm w' A s ∧ s.n ≤ c) ∨ (s.chk ≠ 0 ∧ e = .returned (.tuple #[.slice none 0 0, .int .i64 s.chk]))) ∧ Below w.heap.size w w'
set_option maxHeartbeats 4000000 in
set_option maxRecDepth 100000 in
theorem add_cap (A B : Option Addr) (c d : Nat) (f g : Lf) (t : Int) (w : World) (h : Lm w A f) (h2 : Lm w B g) (hf : f.chk = 0) (hg : g.chk = 0) (ht : t = -1 ∨ t = 0 ∨ t = 1) :
    Calls Try.prog 14 #[.slice A f.n c, .slice B g.n d, .int .i64 t] w (AdQ (Lf.smH f g t) (Gr f g t) (f.n + g.n) w) := by
  have kf := Lf.chk_zero hf
  have kg := Lf.chk_zero hg
  have cB := both_any A B c d f g w h h2 (by have := kf.n2; omega) (by have := kg.n2; omega)
  rw [show botE f g = 0 by unfold botE; rw [if_pos hf, hg]] at cB
  have d1 : decide (t < -1) = false := by simp; omega
  have d2 : decide (1 < t) = false := by simp; omega
  have HF := Lib.hid (And.intro kf kg)
  have HT := Lib.hid ht
  have HLM := Lib.hid (And.intro h h2)
  clear hf hg ht kf kg h h2
  go_enter Try.func14, Try.ntmps14
  go_wp2_with (fail)
  refine cB.mono ?_
  rintro e w1 ⟨rfl, hb1⟩
  go_wp2_with (fail)
  refine (stretches_any A B c d f g w1 (HLM.out.1.below hb1) (HLM.out.2.below hb1) HF.out.1 HF.out.2).mono ?_
  rintro e w2 ⟨SA, m, sc, rfl, hS, hcut, hend, hmn, hb2⟩
  have B2 := below_step hb1 hb2 hb1.size
  have HCU := Lib.hid (And.intro hcut (And.intro hend hmn))
  have HB2 := Lib.hid B2
  have HSR := Lib.hid hS
  have O0 := own_nil w2 w2.heap.size
  have hself := Below.refl w2.heap.size w2
  clear hcut hend hmn hb1 hb2 B2 hS cB
  go_wp2
  go_loopw [9, 29] (fun s9 s29 W => ∃ k AA cc, k ≤ m ∧ s9 = .slice AA (Lf.smL f g t k).n cc ∧ s29 = .int .i64 (k : Nat) ∧ Own W w2.heap.size AA cc (Lf.smL f g t k) ∧ Below w2.heap.size w2 W) (fun _ s29 _ => m - (intOf s29).toNat)
  case atStart => exact ⟨0, none, 0, Nat.zero_le _, rfl, rfl, O0, hself⟩
  case round =>
    clear O0
    obtain ⟨k, AA, cc, hk, rfl, rfl, hO, hb⟩ := hrel
    by_cases hlt : k < m
    · obtain ⟨A', c', he, _, hg⟩ := own_len HSR.out
      obtain ⟨g0, rfl⟩ := hg (by omega)
      obtain ⟨rfl, _, rfl⟩ := Value.slice.inj he
      clear he hg
      obtain ⟨x0, x1, x2, x3, x4, x5, x6, x7⟩ := st_row HSR.out hlt hb
      have hcT := HCU.out.1 k hlt
      have hcb := Lf.cut_bd HF.out.1.toOrd HF.out.2.toOrd (k := k) fun j hj => HCU.out.1 j (by omega)
      have hR := Lf.sm_rep HF.out.1.toOrd HF.out.2.toOrd HT.out (k := k) fun j hj => HCU.out.1 j (by omega)
      have r1 := HF.out.1.rb _ (HF.out.1.toOrd.idx_bd hcb.1 hcT).1
      have r2 := HF.out.2.rb _ (HF.out.2.toOrd.idx_bd hcb.1 hcT).1
      have v1 := HF.out.1.val_bd hcb.1 hcT
      have v2 := HF.out.2.val_bd hcb.1 hcT
      have tr := Lf.t_bd (lo := 0) (hi := 40000) HT.out (x := g.R (g.idx (Lf.cut f g k))) (by omega) (by omega) (by omega)
      have tv := Lf.t_bd (lo := 0) (hi := 4000000000000000) HT.out (x := g.val (Lf.cut f g k)) (by omega) (by omega) (by omega)
      have hsn := Lf.sm_n f g t k
      have hmb : m ≤ 1000 := by have := HCU.out.2.2; have := HF.out.1.n2; have := HF.out.2.n2; omega
      have hB9 := Below.size hb
      have cT := fun W hO hB => then_any w2.heap.size AA cc (Lf.smL f g t k) (Lf.cut f g k) (f.val (Lf.cut f g k) + t * g.val (Lf.cut f g k)) (f.R (f.idx (Lf.cut f g k)) + t * g.R (g.idx (Lf.cut f g k))) W hO hB (by omega) ⟨hcb.1, hcT⟩ (fun i hi => by have := hR.nn i hi; omega) (Lf.sm_R HF.out.1 HF.out.2 HT.out fun j hj => HCU.out.1 j (by omega)) (fun i hi => by
        rw [hR.V_is hi]
        have := hR.nn i hi
        exact Lf.smH_bd HF.out.1 HF.out.2 HT.out (by omega) (by omega))
      rw [show (Lf.smL f g t k).thn (Lf.cut f g k) (f.val (Lf.cut f g k) + t * g.val (Lf.cut f g k)) (f.R (f.idx (Lf.cut f g k)) + t * g.R (g.idx (Lf.cut f g k))) = Lf.smL f g t (k + 1) from rfl] at cT
      obtain ⟨ty, hty⟩ : ∃ ty, t * g.val (Lf.cut f g k) = ty := ⟨_, rfl⟩
      obtain ⟨tz, htz⟩ : ∃ tz, t * g.R (g.idx (Lf.cut f g k)) = tz := ⟨_, rfl⟩
      rw [hty] at tv
      rw [htz] at tr
      have u1 : IntKind.i64.wrap (t * g.val (Lf.cut f g k)) = ty := (IntWalk.i64_in _ (by omega)).trans hty
      have u2 : IntKind.i64.wrap (t * g.R (g.idx (Lf.cut f g k))) = tz := (IntWalk.i64_in _ (by omega)).trans htz
      have u3 : IntKind.i64.wrap (f.val (Lf.cut f g k) + ty) = f.val (Lf.cut f g k) + ty := IntWalk.i64_in _ (by omega)
      have u4 : IntKind.i64.wrap (f.R (f.idx (Lf.cut f g k)) + tz) = f.R (f.idx (Lf.cut f g k)) + tz := IntWalk.i64_in _ (by omega)
      rw [hty, htz] at cT
      clear hcT hcb hR r1 r2 v1 v2 tr tv hsn hty htz
      have NX := below_new wr (.cells #[.int .i64 (Lf.cut f g k), .int .i64 (Lf.cut f g (k + 1) - 1), .int .i64 (Lf.cut f g k), .int .i64 (f.val (Lf.cut f g k)), .int .i64 (f.R (f.idx (Lf.cut f g k))), .int .i64 (Lf.cut f g k), .int .i64 (g.val (Lf.cut f g k)), .int .i64 (g.R (g.idx (Lf.cut f g k)))] 60)
      have HO := hO.below NX
      have B3 := below_step hb NX hb.size
      clear hb hO
      go_wp2_with (fail)
      refine (cT _ HO B3.size).mono ?_
      rintro e w4 ⟨A4, c4, rfl, O4, hg4, _⟩
      have B4 := B3.grown hg4 B3.size (fun j hj => by
        have := (HO.lt j ((blk_own _ _ _).trans hj)).1
        exact this)
      clear cT HO hg4 B3 NX x0 x1 x2 x3 x4 x5 x6 x7
      go_wp2
      go_round
      case rel => exact ⟨k + 1, _, _, Nat.succ_le_of_lt hlt, rfl, by go_num, O4, B4⟩
      case measure => exact meas_step hlt
    · obtain rfl : k = m := by omega
      have hR := Lf.sm_rep HF.out.1.toOrd HF.out.2.toOrd HT.out (k := k) HCU.out.1
      rw [HCU.out.2.1] at hR
      have hsn := Lf.sm_n f g t k
      have HRE := Lib.hid hR
      have HGE := Lib.hid (show ∀ i, i < (Lf.smL f g t k).n → Gr f g t ((Lf.smL f g t k).R i) from Lf.sm_RG HF.out.1.toOrd HF.out.2.toOrd HCU.out.1)
      have hsz : (Lf.smL f g t k).n + 1 ≤ f.n + g.n := by have := HCU.out.2.2; omega
      have hmb : (Lf.smL f g t k).n ≤ 1000 := by have := HF.out.1.n2; have := HF.out.2.n2; omega
      have HSZ := Lib.hid hsz
      generalize Lf.smL f g t k = s at *
      have cC := checked_any AA cc s wr hO.lm (by omega) s.chk rfl
      clear hR hsn hsz hmb
      go_wp2_with (fail)
      refine cC.mono ?_
      rintro e w5 ⟨h5, h6, hb5⟩
      have B5 := below_step HB2.out (below_step hb hb5 hb.size) HB2.out.size
      have L5 := hO.lm.below hb5
      have hcap := hO.cap
      by_cases hz : s.chk = 0
      · have he := h5 hz
        subst he
        have HR : AdQ (Lf.smH f g t) (Gr f g t) (f.n + g.n) w (.returned (.tuple #[.slice AA s.n cc, .int .i64 0])) w5 := ⟨s, HRE.out, HSZ.out, HGE.out, .inl ⟨hz, AA, cc, rfl, L5, hcap⟩, B5⟩
        have HRR := Lib.hid HR
        clear HR L5 B5 hO hb hb5 h5 h6 cC hz
        go_wp2
        go_ret2
        exact HRR.out
      · have he := h6 hz
        subst he
        have HR : AdQ (Lf.smH f g t) (Gr f g t) (f.n + g.n) w (.returned (.tuple #[.slice none 0 0, .int .i64 s.chk])) w5 := ⟨s, HRE.out, HSZ.out, HGE.out, .inr ⟨hz, rfl⟩, B5⟩
        have HRR := Lib.hid HR
        clear HR L5 B5 hO hb hb5 h5 h6 cC hz
        generalize s.chk = q at *
        go_wp2
        go_ret2
        exact HRR.out

end Go.Proofs.Ytcldknmhmbpboaa
