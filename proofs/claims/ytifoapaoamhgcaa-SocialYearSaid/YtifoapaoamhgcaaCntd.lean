/- What base.Counted answers where all fits. -/
import Derived.Test.YtifoapaoamhgcaaSocD
namespace Go.Proofs.Ytifoapaoamhgcaa
open Go.RowKit Go.Sort
set_option linter.unusedVariables false
set_option linter.unusedSimpArgs false

set_option maxRecDepth 100000 in
set_option maxHeartbeats 8000000 in
theorem counted_fn (ci : CB) (A : Option Addr) (m q : Nat) (c x s cn ah : Nat → Int) (w : World) (hl : BasM w A m c x s) (hY : ci.Y ≤ 100000000000) (hb : ∀ k, k < m → amtB (c k) = true ∧ amtB (x k) = true ∧ amtB (s k) = true) (ha : ∀ k, k ≤ m → amtB (ah k) = true) (hm : m ≤ 1000) (h0 : ah 0 = 0)
    (hcn : ∀ k, cn k = undV ci.P ci.Y (onV ci.B (x k) (s k)) (ah k)) (hcb : ∀ k, k < m → amtB (cn k) = true) (hah : ∀ k, ah (k + 1) = ah k + cn k) :
    Calls Try.prog 17 #[ci.v, .slice A m q] w fun e w' => ∃ u, e = .returned (.tuple #[u, .int .i64 0]) ∧ w'.ownsRow w.heap.size 2 1 u m (ivs ((List.range m).map cn)) ∧ Below w.heap.size w w' := by
  have HLS : Hid (∀ k, ivs ((List.range (k + 1)).map cn) = ivs ((List.range k).map cn) ++ [.int .i64 (cn k)]) := Lib.hid fun k => by rw [List.range_succ, List.map_append, ivs_app]; rfl
  have HHB := Lib.hid hb
  have HHA := Lib.hid ha
  have HCN := Lib.hid hcn
  have HCB := Lib.hid hcb
  have HAH := Lib.hid hah
  have H0 := Lib.hid h0
  have HY := Lib.hid hY
  have cU0 := fun (k : Nat) (w : World) h1 h2 => under_any ci (onV ci.B (x k) (s k)) (ah k) w h1 h2 (by have := HY.out; omega)
  have cO0 := fun (k : Nat) (w : World) => on_any ci (c k) (x k) (s k) w
  obtain ⟨N, cB, ⟨cA, cn2, cc, F, R, E⟩, cP, cY, cW⟩ := ci
  dsimp only [CB.v] at *
  have B1 := below_new w (.cells #[.string N, .int .i64 cB, .slice cA cn2 cc, .int .i64 cP, .int .i64 cY, .int .i64 cW] 31)
  have K1 := bx_new w [.string N, .int .i64 cB, .slice cA cn2 cc, .int .i64 cP, .int .i64 cY, .int .i64 cW] 31
  replace hl := hl.below B1
  obtain ⟨j0, hj0, hy0, hy1, hy2⟩ := info_parts infoI
  have Hj := Lib.hid hj0
  have Hy := Lib.hid hy0
  clear hj0 hy0 hb ha hcn hcb hah h0 hY
  go_enter Try.func17, Try.ntmps17
  go_wp2_with (fail)
  generalize w.alloc (.cells #[.string N, .int .i64 cB, .slice cA cn2 cc, .int .i64 cP, .int .i64 cY, .int .i64 cW] 31) = w1 at *
  have Bw := Below.refl w1.heap.size w1
  go_loopw [6, 7, 15] (fun u a k X => ∃ i : Nat, i ≤ m ∧ k = .int .i64 i ∧ a = .int .i64 (ah i) ∧ X.ownsRow w1.heap.size 2 1 u i (ivs ((List.range i).map cn)) ∧ Below w1.heap.size w1 X) (fun _ _ k _ => m - (intOf k).toNat)
  case atStart => exact ⟨0, Nat.zero_le _, rfl, by rw [H0.out], World.ownsRow_nil _ _ _ _, Bw⟩
  case round =>
    clear Bw
    obtain ⟨i, hi, rfl, rfl, OA, hbX⟩ := hrel
    by_cases hlt : i < m
    · obtain ⟨b, o, rfl, hcc⟩ := id (hl (by omega))
      obtain ⟨g0, g1, g2⟩ := hcc i hlt
      replace g0 := cell_later hbX g0
      replace g1 := cell_later hbX g1
      replace g2 := cell_later hbX g2
      obtain ⟨b0, b1, b2⟩ := HHB.out i hlt
      have cb := fun w => bright_any (c i) (x i) (s i) w true (by rw [b0, b1, b2]; rfl)
      have hai := amtB_yes (HHA.out i hi)
      have cU := fun w => cU0 i w (by omega) (by omega)
      have cO := cO0 i
      rw [← HCN.out i] at cU
      have cAd := fun w => add_ok (ah i) (cn i) w (by rw [HHA.out i hi, HCB.out i hlt]; rfl) (by rw [← HAH.out i]; exact HHA.out (i + 1) hlt)
      rw [← HAH.out i] at cAd
      have J1 := K1.below hbX
      have K3 := bx_new wr [.int .i64 (c i), .int .i64 (x i), .int .i64 (s i)] 51
      have NB := below_new wr (.cells #[.int .i64 (c i), .int .i64 (x i), .int .i64 (s i)] 51)
      replace J1 := J1.below NB
      have B3 := below_step hbX NB hbX.size
      have HO := Lib.hid (own_below OA NB)
      have HL := Lib.hid (HLS.out i)
      have hin : (i : Int) < (m : Int) := by omega
      have k3_0 := K3.cell (i := 0) rfl
      have k3_1 := K3.cell (i := 1) rfl
      have k3_2 := K3.cell (i := 2) rfl
      clear NB OA hcc b0 b1 b2 hai cU0 cO0
      generalize onV cB (x i) (s i) = ov at *
      generalize hxi : x i = xi at *
      generalize hsi : s i = si at *
      generalize hci : c i = ci at *
      generalize hai : ah i = ai at *
      generalize hdi : ah (i + 1) = di at *
      generalize hni : cn i = ni at *
      have HD := Lib.hid hdi
      clear hxi hsi hci hai hdi hni
      go_wp2_with (fail)
      clear g0 g1 g2
      generalize wr.alloc (.cells #[.int .i64 ci, .int .i64 xi, .int .i64 si] 51) = W4 at *
      generalize wr.heap.size = pN at *
      with_reducible refine (cb _).mono ?_
      rintro e W5 ⟨rfl, NB⟩
      replace J1 := J1.below NB
      replace K3 := K3.below NB
      have B5 := below_step B3 NB B3.size
      have O5 := Lib.hid (own_below HO.out NB)
      clear NB B3 HO k3_0 k3_1 k3_2
      have e0 := fun d os => cell_regrown (J1.cell (i := 0) rfl) d os
      have e1 := fun d os => cell_regrown (J1.cell (i := 1) rfl) d os
      have e2 := fun d os => cell_regrown (J1.cell (i := 2) rfl) d os
      have e3 := fun d os => cell_regrown (J1.cell (i := 3) rfl) d os
      have e4 := fun d os => cell_regrown (J1.cell (i := 4) rfl) d os
      have e5 := fun d os => cell_regrown (J1.cell (i := 5) rfl) d os
      have f0 := fun d os => cell_regrown (K3.cell (i := 0) rfl) d os
      have f1 := fun d os => cell_regrown (K3.cell (i := 1) rfl) d os
      have f2 := fun d os => cell_regrown (K3.cell (i := 2) rfl) d os
      have cA2 := fun (d : Nat) (os : Array Obj) => Calls.regrown_of (d := d) (os := os) (w := W5) (cO (grow (redrawn W5 d) os))
      have cB2 := fun (d : Nat) (os : Array Obj) => Calls.regrown_of (d := d) (os := os) (w := W5) (cU (grow (redrawn W5 d) os))
      go_wp2
      refine wp_region_quiet_below mixedAll (by kernel_rfl) ?_
      iterate 3 (go_big_quiet_step (fail))
      go_big_quiet_step (exact cA2 _ _)
      iterate 1 (go_big_quiet_step (fail))
      go_big_quiet_step (exact cB2 _ _)
      repeat (go_big_quiet_step (fail))
      refine wpQuiet_nil ?_
      intro _ hw'
      obtain ⟨⟨dq, osq⟩, hw''⟩ := hw'
      subst hw''
      have NB := below_regrown W5 dq osq
      clear cA2 cB2 e0 e1 e2 e3 e4 e5 f0 f1 f2 cO cU
      generalize grow (redrawn W5 dq) osq = W6 at *
      have B6 := below_step B5 NB B5.size
      have O6 := Lib.hid (own_below O5.out NB)
      clear NB B5 O5
      go_wp2_with (fail)
      with_reducible refine (cAd _).mono ?_
      rintro e W8 ⟨rfl, NB⟩
      have B8 := below_step B6 NB B6.size
      have HO := Lib.hid (own_below O6.out NB)
      clear NB B6 O6 cAd K3 J1
      have hd3 : i + 1 ≤ maxLen := by unfold maxLen; omega
      have hd4 : (i + 1) * 8 ≤ 140737488355328 := by omega
      have hcB := bx_add (bx_new W8 [.int .i64 ni] 2)
      have hd2 : ∀ v ∈ ([.int .i64 ni] : List Value), v.oneCell' = true := by simp [Value.oneCell']
      have Ba := B8.alloc B8.size (.cells #[.int .i64 ni] 2)
      have hd5 : w1.heap.size ≤ (W8.alloc (.cells #[.int .i64 ni] 2)).heap.size := Ba.size
      go_wp2_with (at_builtin; (refine wpList_append_own_at _ rfl _ _ 53 rfl w1.heap.size 2 j0 (.int .i64 0) 1 8 Try.underlying53 Hj.out Hy.out hy1 hy2 rfl (by decide) _ _ _ rfl (HO.out.alloc _) ⟨W8.heap.size, 0, none⟩ 1 1 [.int .i64 ni] rfl rfl hcB hd2 hd3 hd4 hd5 ?_; intro vb wb hownB hgB _ hobB; have OB3 : wb.ownsRow w1.heap.size 2 1 vb (i + 1) (ivs ((List.range (i + 1)).map cn)) := (by rw [HL.out]; exact hownB); have Bb := Ba.grown hgB hd5 (fun k hk => (HO.out.lt k hk).1); clear hownB hgB hobB hcB hd2 hd4 hd5 HO))
      refine ⟨⟨i + 1, by omega, by go_num, by rw [HD.out], OB3, Bb⟩, ?_⟩
      simp [intOf]; omega
    · obtain rfl : i = m := by omega
      have B8 := below_step B1 hbX B1.size
      have O8 := Lib.hid (own_mono OA B1.size)
      clear OA hl K1
      have hnl : ¬ (i : Int) < (i : Int) := by omega
      go_wp2
      go_ret2
      exact ⟨_, rfl, O8.out, B8⟩
def cdL (T : TB) (x s : Nat → Int) (i n : Nat) : List Int := (List.range n).map fun k => cntV T (x k) (s k) (ahd T x s k) i
theorem counted_any (T : TB) (hT : TC T) (i : Nat) (hi : i < T.nC) (A : Option Addr) (m q : Nat) (c x s : Nat → Int) (w : World) (hl : BasM w A m c x s) (hm : m ≤ 1000) (hy : firstE (yrE T c x s) m = 0) :
    Calls Try.prog 17 #[(T.C i).v, .slice A m q] w fun e w' => ∃ u, e = .returned (.tuple #[u, .int .i64 0]) ∧ w'.ownsRow w.heap.size 2 1 u m (ivs (cdL T x s i m)) ∧ Below w.heap.size w w' := by
  have hb : ∀ k, k < m → amtB (c k) = true ∧ amtB (x k) = true ∧ amtB (s k) = true := fun k hk => by
    have h1 := first_zero hy k hk
    unfold yrE at h1
    split at h1
    · rename_i hh
      simp only [Bool.and_eq_true] at hh
      exact ⟨hh.1.1, hh.1.2, hh.2⟩
    · omega
  refine counted_fn (T.C i) A m q c x s (fun k => cntV T (x k) (s k) (ahd T x s k) i) (fun k => ahd T x s k i) w hl (hT.c i hi).2.2.2 hb (fun k hk => ?_) hm rfl (fun _ => rfl) (fun k hk => ?_) (fun _ => rfl)
  · exact allB_true (ahd_all fun j hj => first_zero hy j (by omega)) i hi
  · have := cnt_bd T (ahd T x s k) i (amtB_yes (hb k hk).2.1).2 (amtB_yes (hb k hk).2.2).2
    exact amtB_mk (by omega) (by omega)
end Go.Proofs.Ytifoapaoamhgcaa
