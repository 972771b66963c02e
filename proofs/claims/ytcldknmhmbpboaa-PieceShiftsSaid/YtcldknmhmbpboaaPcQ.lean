/- near of one function alone. -/
import Derived.Test.YtcldknmhmbpboaaPcZ
namespace Go.Proofs.Ytcldknmhmbpboaa
open Go.RowKit Go.Sort
set_option linter.unusedVariables false
set_option linter.unusedSimpArgs false
set_option maxHeartbeats 4000000 in
set_option maxRecDepth 100000 in
theorem near_one (A : Option Addr) (c : Nat) (f : Lf) (w : World) (h : Lm w A f) (hf : Rk f) (hn : 0 < f.n ∧ f.n ≤ 512) :
    Calls Try.prog 15 #[.slice A f.n c, .slice none 0 0] w (NrQ 10000 w) := by
  obtain ⟨i0', hi0, hz0, hz1, hz2⟩ := info_parts infoLn
  have Hi := Lib.hid hi0
  have Hz := Lib.hid hz0
  obtain ⟨j0', hj0, hy0, hy1, hy2⟩ := info_parts infoI
  have Ji := Lib.hid hj0
  have Jz := Lib.hid hy0
  clear hi0 hz0 hj0 hy0
  have hF := Lib.hid hf
  have B1 := below_new w (.cells #[.int .i64 0, .int .i64 1, .int .i64 10000000000] 2)
  have O1 := own_made w [.int .i64 0, .int .i64 1, .int .i64 10000000000] 2 (k := 1) (n := 3) rfl (by omega) w.heap.size (Nat.le_refl _)
  have X1 : Nms [.int .i64 0, .int .i64 1, .int .i64 10000000000] := fun u hu => by
    simp only [List.mem_cons, List.not_mem_nil, or_false] at hu
    rcases hu with rfl | rfl | rfl <;> exact ⟨_, rfl, by omega, by omega⟩
  have hsz : (w.alloc (.cells #[.int .i64 0, .int .i64 1, .int .i64 10000000000] 2)).heap.size = w.heap.size + 1 := by simp
  have O2 := own_made (w.alloc (.cells #[.int .i64 0, .int .i64 1, .int .i64 10000000000] 2)) [] 37 (k := 3) (n := 0) rfl (by omega) (w.heap.size + 1) (by rw [hsz]; exact Nat.le_refl _)
  rw [hsz] at O2
  have B2 := B1.alloc B1.size (.cells #[] 37)
  have O1' := own_below O1 (below_new (w.alloc (.cells #[.int .i64 0, .int .i64 1, .int .i64 10000000000] 2)) (.cells #[] 37))
  obtain ⟨fb, fo, rfl, _⟩ := id (h hn.1)
  have hnews := lm_news (h.below B2)
  have hone := lnL_one f f.n
  have hl1 := lnL_len f f.n
  have hz9 : w.heap.size + 1 ≤ ((w.alloc (.cells #[.int .i64 0, .int .i64 1, .int .i64 10000000000] 2)).alloc (.cells #[] 37)).heap.size := by simp
  have hc3 : Hid (0 + f.n ≤ maxLen) := Lib.hid (by unfold maxLen; omega)
  have hc4 : Hid ((0 + f.n) * 24 ≤ 140737488355328) := Lib.hid (by omega)
  have HN := Lib.hid hn
  have hn1 := hn.1
  clear hf O1 B1 hsz h hn
  go_enter Try.func15, Try.ntmps15
  go_wp2_with (refine wpList_append_lies _ rfl (.tmp 11) (.tmp 12) 23 rfl (w.heap.size + 1) 37 i0' (.agg #[.int .i64 0, .int .i64 0, .int .i64 0]) 3 24 Try.underlying23 Hi.out Hz.out hz1 hz2 (by rfl) (by decide) _ 0 [] (by rfl) O2 ⟨fb, fo, none⟩ f.n c (lnL f f.n) (by rfl) hl1 hnews hone hn1 hc3.out hc4.out hz9 _ rfl ?_; intro g0 cap9 w9 hown9 hgrow hat hlt9; rw [Nat.zero_add] at hown9; have B9 := B2.grown hgrow B2.size (fun j hj => Nat.le_trans (Nat.le_succ _) (O2.lt j hj).1); have P9 := own_gr O1' hgrow (fun j hj e => by have h1 := (O2.lt j e.symm).1; have h3 : w.heap.size = j := Option.some.inj hj; omega); have hcap9 := Own.cap (f := f) (B := w.heap.size + 1) (A := some ⟨g0, 0, none⟩) (c := cap9) (w := w9) hown9)
  have hg0 : w.heap.size + 1 ≤ g0 := (hown9.lt g0 rfl).1
  have L0 : Lm w9 (some ⟨g0, 0, none⟩) f := Own.lm (B := w.heap.size + 1) (c := cap9) hown9
  have I0 : NrI w g0 f (some ⟨w.heap.size, 0, none⟩) 3 3 w9 := ⟨_, P9, X1, L0, fun e => (by have h3 : w.heap.size = g0 := Option.some.inj e; omega), B9⟩
  have hNb : f.n ≤ 1024 := by have := HN.out; omega
  have HFB := Lib.hid hF.out.fb
  clear hown9 hgrow hat hlt9 B9 P9 O2 B2 O1' hnews hone hl1 hz9 hc3 hc4 hn1 L0 X1 hcap9
  go_loopw [5, 17] (fun s5 s17 W => ∃ i A n cc, i ≤ f.n ∧ s5 = .slice A n cc ∧ s17 = .int .i64 (i : Nat) ∧ 3 ≤ n ∧ n ≤ 3 + 5 * i ∧ NrI w g0 (f) A n cc W) (fun _ s17 _ => f.n - (intOf s17).toNat)
  case atStart => exact ⟨0, _, 3, 3, Nat.zero_le _, rfl, rfl, Nat.le_refl _, Nat.le_refl _, I0⟩
  case round =>
    clear I0
    obtain ⟨i, A, n, cc, hi, rfl, rfl, h3n, hnn, hI⟩ := hrel
    by_cases hlt : i < f.n
    · obtain ⟨_, hO, _, hL, _, hb⟩ := id hI
      obtain ⟨b5, o5, he5, c0, c1, c2⟩ := lm_at hL (i := i) hlt
      obtain ⟨rfl, rfl⟩ : g0 = b5 ∧ 0 = o5 := by simpa using he5
      rw [Nat.zero_add] at c0 c1 c2
      have hfi := HFB.out i hlt
      have KX := bx_new wr [.int .i64 ((f).F i), .int .i64 ((f).V i), .int .i64 ((f).R i)] 37
      have NX := below_new wr (.cells #[.int .i64 ((f).F i), .int .i64 ((f).V i), .int .i64 ((f).R i)] 37)
      have I1 := hI.below NX
      have hpb : blk A ≠ some wr.heap.size := fun e => by
        have := (hO.lt wr.heap.size ((blk_own _ _ _).trans e)).2
        omega
      clear hI hO hL hb NX
      generalize (f).F i = x at *
      generalize (f).V i = xv at *
      generalize (f).R i = xr at *
      go_wp2
      generalize wr.alloc (.cells #[.int .i64 x, .int .i64 xv, .int .i64 xr] 37) = wx at *
      generalize wr.heap.size = pb at *
      clear c0 c1 c2
      have hn0 : (n : Int) ≤ 3 + 5 * i + (-2 + 2) := by omega
      go_loopw [5, 8] (fun s5 s8 W => ∃ (k : Int) (A : Option Addr) (n cc : Nat), -2 ≤ k ∧ k ≤ 3 ∧ s5 = .slice A n cc ∧ s8 = .int .i64 k ∧ 3 ≤ n ∧ (n : Int) ≤ 3 + 5 * i + (k + 2) ∧ NrI w g0 (f) A n cc W ∧ Bx W pb 37 [.int .i64 x, .int .i64 xv, .int .i64 xr] ∧ blk A ≠ some pb) (fun _ s8 _ => (3 - intOf s8).toNat)
      case atStart => exact ⟨-2, A, n, cc, by omega, by omega, rfl, rfl, h3n, hn0, I1, KX, hpb⟩
      case round =>
        clear I1 KX hpb hn0 hnn h3n
        obtain ⟨k, A2, n2, c2, hk1, hk2, rfl, rfl, h3n, hnn, hI, KX, hpb⟩ := hrel
        by_cases hk : k < 3
        · have d0 : decide (k < 3) = true := decide_eq_true hk
          have u1 : IntKind.i64.wrap (x + k) = x + k := IntWalk.i64_in _ (by omega)
          have u2 : IntKind.i64.wrap (k + 1) = k + 1 := IntWalk.i64_in _ (by omega)
          have k0 := KX.cell (i := 0) rfl
          by_cases hx : 0 ≤ x + k ∧ x + k ≤ 10000000000
          · have d1 : decide (0 ≤ x + k) = true := decide_eq_true hx.1
            have d2 : decide (x + k ≤ 10000000000) = true := decide_eq_true hx.2
            obtain ⟨xs, hO, hX, hL, hne, hb⟩ := hI
            have NX := below_new wr (.cells #[.int .i64 (x + k)] 2)
            have HO := own_below hO NX
            have HL := hL.below NX
            have HK := KX.below NX
            have B3 := below_step hb NX hb.size
            have HP := Lib.hid (And.intro hne hpb)
            have HX := Lib.hid (nms_add hX hx.1 hx.2)
            have hone : ∀ u ∈ ([.int .i64 (x + k)] : List Value), u.oneCell' = true := by simp [Value.oneCell']
            have hc3 : Hid (n2 + 1 ≤ maxLen) := Lib.hid (by unfold maxLen; omega)
            have hc4 : Hid ((n2 + 1) * 8 ≤ 140737488355328) := Lib.hid (by omega)
            have HLT := Lib.hid (And.intro (World.block_lt_of_cell? _ _ (hL.cell0 (by show 0 < f.n; omega))) KX.lt)
            have HNX := Lib.hid NX.size
            have HKK := Lib.hid (And.intro hk1 (And.intro hk hnn))
            clear hO hX hL hne hb hpb KX hx hk1 hk2 NX hnn
            go_wp2_with (refine wpList_append_lies _ rfl (.tmp 35) (.tmp 37) 34 rfl w.heap.size 2 j0' (.int .i64 0) 1 8 Try.underlying34 Ji.out Jz.out hy1 hy2 (by rfl) (by decide) _ n2 xs (by rfl) HO ⟨_, 0, none⟩ 1 1 [.int .i64 (x + k)] (by rfl) (by rfl) (cells_at8 _ [.int .i64 (x + k)] _ rfl) hone (by decide) hc3.out hc4.out B3.size _ rfl ?_; intro g9 cap9 w9 hown9 hgrow hat hlt9)
            rw [blk_own] at hgrow hat
            have B9 := B3.grown hgrow B3.size (fun j hj => (HO.lt j ((blk_own _ _ _).trans hj)).1)
            have L9 := HL.grown hgrow (fun e => HP.out.1 e.symm)
            have K9 := HK.of_block (hgrow.block pb HK.lt (fun e => HP.out.2 e.symm))
            have hneq : ∀ q, q < wr.heap.size → blk A2 ≠ some q → blk (some (⟨g9, 0, none⟩ : Addr)) ≠ some q := fun q hq hnq e => by
              have e' : g9 = q := Option.some.inj e
              rcases hat with e1 | e1
              · rw [e'] at e1; exact hnq e1
              · have h2 : (wr.alloc (.cells #[.int .i64 (x + k)] 2)).heap.size = wr.heap.size + 1 := by simp
                omega
            have I9 : NrI w g0 (f) (some ⟨g9, 0, none⟩) (n2 + 1) cap9 w9 := ⟨_, hown9, HX.out, L9, hneq g0 HLT.out.1 HP.out.1, B9⟩
            have P9 := hneq pb HLT.out.2 HP.out.2
            go_round
            case rel => exact ⟨k + 1, _, _, _, by have := HKK.out; omega, by have := HKK.out; omega, rfl, rfl, by omega, by have := HKK.out; omega, I9, K9, P9⟩
            case measure => exact meas_k HKK.out.1 HKK.out.2.1
          · have HKK := Lib.hid (And.intro hk1 (And.intro hk hnn))
            rcases (show ¬ 0 ≤ x + k ∨ (0 ≤ x + k ∧ ¬ x + k ≤ 10000000000) by omega) with h1 | ⟨h1, h2⟩
            · have d1 : decide (0 ≤ x + k) = false := decide_eq_false h1
              clear hx h1 hnn
              go_wp2
              go_round
              case rel => exact ⟨k + 1, A2, n2, c2, by have := HKK.out; omega, by have := HKK.out; omega, rfl, rfl, h3n, by have := HKK.out; omega, hI, KX, hpb⟩
              case measure => exact meas_k HKK.out.1 HKK.out.2.1
            · have d1 : decide (0 ≤ x + k) = true := decide_eq_true h1
              have d2 : decide (x + k ≤ 10000000000) = false := decide_eq_false h2
              clear hx h1 h2 hnn
              go_wp2
              go_round
              case rel => exact ⟨k + 1, A2, n2, c2, by have := HKK.out; omega, by have := HKK.out; omega, rfl, rfl, h3n, by have := HKK.out; omega, hI, KX, hpb⟩
              case measure => exact meas_k HKK.out.1 HKK.out.2.1
        · have d0 : decide (k < 3) = false := decide_eq_false hk
          have hn5 : n2 ≤ 3 + 5 * (i + 1) := by omega
          have HN5 := Lib.hid hn5
          have hi1 : i + 1 ≤ 2000 := by omega
          clear hn5 hnn hk hk1 hk2
          go_wp2
          go_round
          case rel => exact ⟨i + 1, A2, n2, c2, Nat.succ_le_of_lt hlt, rfl, by go_num, h3n, HN5.out, hI⟩
          case measure => exact meas_step hlt
    · obtain rfl : i = f.n := by omega
      obtain ⟨xs, hO, hX, hL, hne, hb⟩ := hI
      have HR : NrQ 10000 w (.returned (.slice A n cc)) wr := ⟨A, n, cc, xs, rfl, h3n, by omega, hO, hX, hb⟩
      have HRR := Lib.hid HR
      clear HR hO hX hL hne hb
      go_wp2
      go_ret
      exact HRR.out
end Go.Proofs.Ytcldknmhmbpboaa
