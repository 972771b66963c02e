/- What year.Slip, Upto answer. -/
import Derived.Test.YtfnjhalpedccaaaYrK
import Derived.WalkMore
namespace Go.Proofs.Ytfnjhalpedccaaa
open Go.RowKit Go.Sort
set_option linter.unusedVariables false
set_option linter.unusedSimpArgs false

/-- the payslips that a year keeps -/
theorem YO.sls {W : World} {p n cnt : Nat} {g : Nat → Slp} {t : Tot} {F : Nat → Prop} (h : YO W p n cnt g t F) : ∃ A c, W.cell? ⟨p, 0, none⟩ = some (.slice A cnt c) ∧ Sls W A cnt g ∧ (0 < cnt → ∃ b, A = some ⟨b, 0, none⟩) ∧ cnt ≤ c := by
  obtain ⟨A, c, B, bc, h⟩ := h
  refine ⟨A, c, h.K.cell rfl, fun h0 => ?_, fun h0 => ?_, ?_⟩
  · obtain ⟨b, rfl, _⟩ := sl_own h.O (i := 0) h0
    refine ⟨b, 0, rfl, fun i hi => ⟨?_, h.M i hi⟩⟩
    obtain ⟨b', e, hc⟩ := sl_own h.O hi
    obtain rfl : b = b' := by simpa using e
    rw [Nat.zero_add]; exact hc
  · obtain ⟨b, rfl, _⟩ := sl_own h.O (i := 0) h0
    exact ⟨b, rfl⟩
  · obtain ⟨_, ⟨hv, h0⟩ | ⟨g', cap, cur, hv, _, _, hle, _⟩⟩ := h.O
    · omega
    · obtain ⟨_, _, rfl⟩ := Value.slice.inj hv
      exact hle
theorem YO.len {W : World} {p n cnt : Nat} {g : Nat → Slp} {t : Tot} {F : Nat → Prop} (h : YO W p n cnt g t F) : ∃ B bc, W.cell? ⟨p, 6, none⟩ = some (.slice B n bc) ∧ p < W.heap.size := by
  obtain ⟨A, c, B, bc, h⟩ := h
  exact ⟨B, bc, h.K.cell (i := 6) rfl, h.K.lt⟩
set_option maxRecDepth 100000 in
set_option maxHeartbeats 4000000 in
theorem yslip_no1 {W : World} {p n cnt : Nat} {g : Nat → Slp} {t : Tot} {F : Nat → Prop} (h : YO W p n cnt g t F) (k : Int) (hk : k < 1) :
    Calls Try.prog 15 #[.pointer (some ⟨p, 0, none⟩), .int .i64 k] W fun e w' => e = .returned (.tuple #[.agg #[.int .i64 0, .int .i64 0, .int .i64 0, .int .i64 0, .int .i64 0, .int .i64 0, .slice none 0 0, .int .i64 0, .slice none 0 0, .int .i64 0], .int .i64 3]) ∧ Below W.heap.size W w' := by
  have K := bx_new W [.int .i64 0, .int .i64 0, .int .i64 0, .int .i64 0, .int .i64 0, .int .i64 0, .slice none 0 0, .int .i64 0, .slice none 0 0, .int .i64 0] 37
  have B := below_new W (.cells #[.int .i64 0, .int .i64 0, .int .i64 0, .int .i64 0, .int .i64 0, .int .i64 0, .slice none 0 0, .int .i64 0, .slice none 0 0, .int .i64 0] 37)
  have b1 : k < 1 := hk
  clear hk h
  have k_0 := K.cell (i := 0) rfl
  have g_0 := K.fr 0
  have k_1 := K.cell (i := 1) rfl
  have g_1 := K.fr 1
  have k_2 := K.cell (i := 2) rfl
  have g_2 := K.fr 2
  have k_3 := K.cell (i := 3) rfl
  have g_3 := K.fr 3
  have k_4 := K.cell (i := 4) rfl
  have g_4 := K.fr 4
  have k_5 := K.cell (i := 5) rfl
  have g_5 := K.fr 5
  have k_6 := K.cell (i := 6) rfl
  have g_6 := K.fr 6
  have k_7 := K.cell (i := 7) rfl
  have g_7 := K.fr 7
  have k_8 := K.cell (i := 8) rfl
  have g_8 := K.fr 8
  have k_9 := K.cell (i := 9) rfl
  have g_9 := K.fr 9
  clear K
  go_enter Try.func15, Try.ntmps15
  go_wp2
  exact bodyPost_ret (v := .tuple #[.agg #[.int .i64 0, .int .i64 0, .int .i64 0, .int .i64 0, .int .i64 0, .int .i64 0, .slice none 0 0, .int .i64 0, .slice none 0 0, .int .i64 0], .int .i64 3]) (by simp [results, Try.results15, go_sem, k_0, k_1, k_2, k_3, k_4, k_5, k_6, k_7, k_8, k_9]) rfl ⟨rfl, B⟩
set_option maxRecDepth 100000 in
set_option maxHeartbeats 4000000 in
theorem yslip_no2 {W : World} {p n cnt : Nat} {g : Nat → Slp} {t : Tot} {F : Nat → Prop} (h : YO W p n cnt g t F) (k : Int) (hk : ¬ k < 1 ∧ (cnt : Int) < k) :
    Calls Try.prog 15 #[.pointer (some ⟨p, 0, none⟩), .int .i64 k] W fun e w' => e = .returned (.tuple #[.agg #[.int .i64 0, .int .i64 0, .int .i64 0, .int .i64 0, .int .i64 0, .int .i64 0, .slice none 0 0, .int .i64 0, .slice none 0 0, .int .i64 0], .int .i64 3]) ∧ Below W.heap.size W w' := by
  have K := bx_new W [.int .i64 0, .int .i64 0, .int .i64 0, .int .i64 0, .int .i64 0, .int .i64 0, .slice none 0 0, .int .i64 0, .slice none 0 0, .int .i64 0] 37
  have B := below_new W (.cells #[.int .i64 0, .int .i64 0, .int .i64 0, .int .i64 0, .int .i64 0, .int .i64 0, .slice none 0 0, .int .i64 0, .slice none 0 0, .int .i64 0] 37)
  have b1 : ¬ k < 1 := hk.1
  have b2 : (cnt : Int) < k := hk.2
  have cC := ycount_any (h.below B)
  clear hk h
  go_enter Try.func15, Try.ntmps15
  go_wp2_with (fail)
  with_reducible refine cC.mono ?_
  rintro e w1 ⟨rfl, rfl⟩
  have k_0 := K.cell (i := 0) rfl
  have g_0 := K.fr 0
  have k_1 := K.cell (i := 1) rfl
  have g_1 := K.fr 1
  have k_2 := K.cell (i := 2) rfl
  have g_2 := K.fr 2
  have k_3 := K.cell (i := 3) rfl
  have g_3 := K.fr 3
  have k_4 := K.cell (i := 4) rfl
  have g_4 := K.fr 4
  have k_5 := K.cell (i := 5) rfl
  have g_5 := K.fr 5
  have k_6 := K.cell (i := 6) rfl
  have g_6 := K.fr 6
  have k_7 := K.cell (i := 7) rfl
  have g_7 := K.fr 7
  have k_8 := K.cell (i := 8) rfl
  have g_8 := K.fr 8
  have k_9 := K.cell (i := 9) rfl
  have g_9 := K.fr 9
  clear K cC
  go_wp2
  exact bodyPost_ret (v := .tuple #[.agg #[.int .i64 0, .int .i64 0, .int .i64 0, .int .i64 0, .int .i64 0, .int .i64 0, .slice none 0 0, .int .i64 0, .slice none 0 0, .int .i64 0], .int .i64 3]) (by simp [results, Try.results15, go_sem, k_0, k_1, k_2, k_3, k_4, k_5, k_6, k_7, k_8, k_9]) rfl ⟨rfl, B⟩
/-- what Slip leaves -/
def YsP (s : Slp) (w : World) (e : Ending) (w' : World) : Prop := ∃ A c T d, e = .returned (.tuple #[.agg #[.int .i64 s.k, .int .i64 s.ca, .int .i64 s.tb, .int .i64 s.so, .int .i64 s.tx, .int .i64 s.sf, .slice A s.n c, .int .i64 s.net, .slice T s.m d, .int .i64 s.pay], .int .i64 0]) ∧ w'.ownsRow w.heap.size 53 2 (.slice A s.n c) s.n (sh2 s.X s.Y s.n) ∧ w'.ownsRow w.heap.size 58 6 (.slice T s.m d) s.m (tkc s.f s.m) ∧ (∀ q, atB A q → ¬ atB T q) ∧ Below w.heap.size w w'
set_option maxRecDepth 100000 in
set_option maxHeartbeats 4000000 in
theorem yslip_ok {W : World} {p n cnt : Nat} {g : Nat → Slp} {t : Tot} {F : Nat → Prop} (h : YO W p n cnt g t F) (hg : ∀ i, i < cnt → (g i).n ≤ 100000 ∧ (g i).m ≤ 100000) (i : Nat) (hi : i < cnt) (hcnt : cnt ≤ 1000) :
    Calls Try.prog 15 #[.pointer (some ⟨p, 0, none⟩), .int .i64 ((i + 1 : Nat) : Int)] W (YsP (g i) W) := by
  unfold YsP
  have b1 : ¬ ((i + 1 : Nat) : Int) < 1 := by omega
  have b2 : ¬ (cnt : Int) < ((i + 1 : Nat) : Int) := by omega
  have e1 : ((i + 1 : Nat) : Int) - 1 = (i : Int) := by omega
  have e2 : wrap64 (((i + 1 : Nat) : Int) - 1) = (i : Int) := by rw [e1]; exact IntWalk.wrap64_in _ (by omega)
  have K := bx_new W [.int .i64 0, .int .i64 0, .int .i64 0, .int .i64 0, .int .i64 0, .int .i64 0, .slice none 0 0, .int .i64 0, .slice none 0 0, .int .i64 0] 37
  have B := below_new W (.cells #[.int .i64 0, .int .i64 0, .int .i64 0, .int .i64 0, .int .i64 0, .int .i64 0, .slice none 0 0, .int .i64 0, .slice none 0 0, .int .i64 0] 37)
  have h1 := h.below B
  have cC := ycount_any h1
  obtain ⟨A0, c0, y0, hSl, hA0, hcc⟩ := h1.sls
  obtain ⟨b, rfl⟩ := hA0 (by omega)
  obtain ⟨b', o', e, hc⟩ := hSl (by omega)
  obtain ⟨rfl, rfl⟩ : b = b' ∧ 0 = o' := by simpa using e
  obtain ⟨hAt, hM⟩ := hc i hi
  rw [Nat.zero_add] at hAt
  have hm1 := (hg i hi).1
  have hm2 := (hg i hi).2
  have cO := yown_any (g i) (W.alloc (.cells #[.int .i64 0, .int .i64 0, .int .i64 0, .int .i64 0, .int .i64 0, .int .i64 0, .slice none 0 0, .int .i64 0, .slice none 0 0, .int .i64 0] 37)) hM hm1 hm2
  unfold OwP at cO
  have hil : (i : Int) < (cnt : Int) := by omega
  clear hc hSl hA0 e hM hg h h1 e1 hm1 hm2
  generalize hgs : g i = s at *
  clear hgs
  generalize hkk : ((i + 1 : Nat) : Int) = kk at *
  rw [show i = kk.toNat - 1 by omega] at hAt
  clear hkk
  obtain ⟨x_0, x_1, x_2, x_3, x_4, x_5, x_6, x_7, x_8, x_9⟩ := hAt.all
  clear hAt
  go_enter Try.func15, Try.ntmps15
  go_wp2_with (fail)
  with_reducible refine cC.mono ?_
  rintro e w1 ⟨rfl, rfl⟩
  go_wp2_with (fail)
  with_reducible refine cO.mono ?_
  rintro e w2 ⟨A, c, T, d, rfl, O1, O2, hne, hb⟩
  have B2 := below_step B hb B.size
  replace K := K.below hb
  have hp : W.heap.size < (W.alloc (.cells #[.int .i64 0, .int .i64 0, .int .i64 0, .int .i64 0, .int .i64 0, .int .i64 0, .slice none 0 0, .int .i64 0, .slice none 0 0, .int .i64 0] 37)).heap.size := by simp
  have hne := Lib.hid hne
  have k_0 := K.cell (i := 0) rfl
  have g_0 := K.fr 0
  have k_1 := K.cell (i := 1) rfl
  have g_1 := K.fr 1
  have k_2 := K.cell (i := 2) rfl
  have g_2 := K.fr 2
  have k_3 := K.cell (i := 3) rfl
  have g_3 := K.fr 3
  have k_4 := K.cell (i := 4) rfl
  have g_4 := K.fr 4
  have k_5 := K.cell (i := 5) rfl
  have g_5 := K.fr 5
  have k_6 := K.cell (i := 6) rfl
  have g_6 := K.fr 6
  have k_7 := K.cell (i := 7) rfl
  have g_7 := K.fr 7
  have k_8 := K.cell (i := 8) rfl
  have g_8 := K.fr 8
  have k_9 := K.cell (i := 9) rfl
  have g_9 := K.fr 9
  have Z := ((((((((((K.set 0 (.int .i64 s.k)).set 1 (.int .i64 s.ca)).set 2 (.int .i64 s.tb)).set 3 (.int .i64 s.so)).set 4 (.int .i64 s.tx)).set 5 (.int .i64 s.sf)).set 6 (.slice A s.n c)).set 7 (.int .i64 s.net)).set 8 (.slice T s.m d)).set 9 (.int .i64 s.pay))
  have z_0 := Z.cell (i := 0) rfl
  have z_1 := Z.cell (i := 1) rfl
  have z_2 := Z.cell (i := 2) rfl
  have z_3 := Z.cell (i := 3) rfl
  have z_4 := Z.cell (i := 4) rfl
  have z_5 := Z.cell (i := 5) rfl
  have z_6 := Z.cell (i := 6) rfl
  have z_7 := Z.cell (i := 7) rfl
  have z_8 := Z.cell (i := 8) rfl
  have z_9 := Z.cell (i := 9) rfl
  have BZ := stAll_below (p := W.heap.size) (Nat.le_refl _) [.int .i64 s.k, .int .i64 s.ca, .int .i64 s.tb, .int .i64 s.so, .int .i64 s.tx, .int .i64 s.sf, .slice A s.n c, .int .i64 s.net, .slice T s.m d, .int .i64 s.pay] _ 0 B2
  have P1 := Lib.hid (own_mono (own_blk O1 (w' := stAll w2 W.heap.size 0 [.int .i64 s.k, .int .i64 s.ca, .int .i64 s.tb, .int .i64 s.so, .int .i64 s.tx, .int .i64 s.sf, .slice A s.n c, .int .i64 s.net, .slice T s.m d, .int .i64 s.pay]) (fun q hq => stAll_blk (by have := (O1.lt q hq).1; omega) _ _ _)) (show W.heap.size ≤ _ by omega))
  have P2 := Lib.hid (own_mono (own_blk O2 (w' := stAll w2 W.heap.size 0 [.int .i64 s.k, .int .i64 s.ca, .int .i64 s.tb, .int .i64 s.so, .int .i64 s.tx, .int .i64 s.sf, .slice A s.n c, .int .i64 s.net, .slice T s.m d, .int .i64 s.pay]) (fun q hq => stAll_blk (by have := (O2.lt q hq).1; omega) _ _ _)) (show W.heap.size ≤ _ by omega))
  clear Z K B B2 cC cO O1 O2 hb hp x_0 x_1 x_2 x_3 x_4 x_5 x_6 x_7 x_8 x_9
  go_wp2
  exact bodyPost_ret (v := .tuple #[.agg #[.int .i64 s.k, .int .i64 s.ca, .int .i64 s.tb, .int .i64 s.so, .int .i64 s.tx, .int .i64 s.sf, .slice A s.n c, .int .i64 s.net, .slice T s.m d, .int .i64 s.pay], .int .i64 0]) (by simp [results, Try.results15, go_sem, z_0, z_1, z_2, z_3, z_4, z_5, z_6, z_7, z_8, z_9]) rfl ⟨A, c, T, d, rfl, P1.out, P2.out, hne.out, BZ⟩
end Go.Proofs.Ytfnjhalpedccaaa
