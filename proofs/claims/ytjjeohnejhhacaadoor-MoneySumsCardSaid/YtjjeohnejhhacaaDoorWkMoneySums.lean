/- Amounts together, one by one: what money.Sum answers; MoneySums answers true. -/
import Derived.Test.YtjjeohnejhhacaaDoorCounts
namespace Go.Proofs.YtjjeohnejhhacaaDoor
open Go.RowKit
set_option linter.unusedVariables false
set_option linter.unusedSimpArgs false

def sumTo (f : Nat → Int) : Nat → Int
  | 0 => 0
  | k + 1 => sumTo f k + f k
def okTo (f : Nat → Int) : Nat → Bool
  | 0 => true
  | k + 1 => okTo f k && (amtB (f k) && amtB (sumTo f k + f k))
def sumR (f : Nat → Int) (n : Nat) : Int × Int := if okTo f n = true then (sumTo f n, 0) else (0, 10)
theorem okTo_amt {f : Nat → Int} : ∀ {k : Nat}, okTo f k = true → amtB (sumTo f k) = true
  | 0, _ => rfl
  | k + 1, h => by
    simp only [okTo, Bool.and_eq_true] at h
    exact h.2.2
theorem okTo_false {f : Nat → Int} {i : Nat} (h : okTo f (i + 1) = false) : ∀ {n : Nat}, i < n → okTo f n = false
  | n + 1, hn => by
    by_cases e : i = n
    · subst e; exact h
    · simp only [okTo]
      rw [okTo_false h (by omega : i < n)]
      rfl
theorem row_later {w w' : World} {A : Option Addr} {n : Nat} {f : Nat → Value} (h : rowAt w A n f) (hb : Below w.heap.size w w') : rowAt w' A n f := fun hn => by
  obtain ⟨b, o, e, hc⟩ := h hn
  exact ⟨b, o, e, fun i hi => cell_later hb (hc i hi)⟩
set_option maxHeartbeats 1000000 in
theorem sum_any (A : Option Addr) (n c : Nat) (w : World) (f : Nat → Int) (h : rowAt w A n fun i => .int .i64 (f i)) (hn : n ≤ 100) :
    Calls Tryd.prog 19 #[.slice A n c] w fun e w' => e = .returned (.tuple #[.int .i64 (sumR f n).1, .int .i64 (sumR f n).2]) ∧ Below w.heap.size w w' := by
  go_enter Tryd.func19, Tryd.ntmps19
  go_wp2
  go_loopw [4, 5, 10] (fun s e k wr => ∃ i : Nat, i ≤ n ∧ okTo f i = true ∧ s = .int .i64 (sumTo f i) ∧ e = .int .i64 0 ∧ k = .int .i64 i ∧ Below w.heap.size w wr) (fun _ _ k _ => n - (intOf k).toNat)
  case atStart => exact ⟨0, Nat.zero_le _, rfl, rfl, rfl, rfl, Below.refl _ _⟩
  case round =>
    obtain ⟨i, hi, hk, rfl, rfl, rfl, hbr⟩ := hrel
    by_cases hlt : i < n
    · obtain ⟨b, o, rfl, hc⟩ := row_later h hbr (by omega)
      have hcell := hc i hlt
      have hm := okTo_amt hk
      have hs : okTo f (i + 1) = (amtB (f i) && amtB (sumTo f i + f i)) := by rw [okTo, hk]; rfl
      have hT : sumTo f (i + 1) = sumTo f i + f i := rfl
      cases hB : (amtB (f i) && amtB (sumTo f i + f i))
      · have hF := okTo_false (hs.trans hB) hlt
        have HE := Lib.hid (show sumR f n = (0, 10) by simp [sumR, hF])
        have ad := fun w => add_bad (sumTo f i) (f i) w (by rw [hm]; simpa using hB)
        clear hF hs hB hk hm hc h hT
        generalize sumTo f i = s at *
        go_wp2_with (fail)
        refine (ad _).mono ?_
        rintro e w2 ⟨rfl, b2⟩
        go_wp2
        go_ret2
        exact ⟨ret_pair HE.out, below_step hbr b2 hbr.size⟩
      · obtain ⟨h1, h2⟩ := Bool.and_eq_true_iff.1 hB
        have HK := Lib.hid (hs.trans hB)
        have HT := Lib.hid hT
        have ad := fun w => add_ok (sumTo f i) (f i) w (by rw [hm, h1]; rfl) h2
        clear hs hB hk hm hc h hT h1 h2
        generalize sumTo f i = s at *
        go_wp2_with (fail)
        refine (ad _).mono ?_
        rintro e w2 ⟨rfl, b2⟩
        go_wp2
        go_roundw
        case rel => exact ⟨i + 1, by omega, HK.out, by rw [HT.out], rfl, by go_num, below_step hbr b2 hbr.size⟩
        case measure => simp [intOf]; omega
    · obtain rfl : i = n := by omega
      have HE := Lib.hid (show sumR f i = (sumTo f i, 0) by simp [sumR, hk])
      clear hk
      go_wp2
      go_ret2
      exact ⟨ret_pair HE.out, hbr⟩
set_option maxHeartbeats 1000000 in
theorem wMoneySums (A : Option Addr) (n c : Nat) (f : Nat → Int) (w : World) (htab : Tab w) (h : rowAt w A n fun i => .int .i64 (f i)) (_ : n ≤ 9223372036854775807) (hf : ∀ i, -9223372036854775808 ≤ f i ∧ f i ≤ 9223372036854775807) :
    Calls Tryd.prog 4 #[.slice A n c] w fun e w' => e = .returned (.bool true) ∧ Below w.heap.size w w' := by
  have ct := counts_any w htab
  clear htab
  by_cases hn : n ≤ 100
  · have sm := fun w h => sum_any A n c w f h hn
    cases hk : okTo f n
    · have hE : sumR f n = (0, 10) := by simp [sumR, hk]
      rw [hE] at sm
      have HK := Lib.hid hk
      clear hE hk
      go_enter Tryd.func4, Tryd.ntmps4
      go_wp2_with (fail)
      refine ct.mono ?_
      rintro e w1 ⟨rfl, b1⟩
      have h1 := row_later h b1
      clear h
      go_wp2_with (fail)
      refine (sm _ h1).mono ?_
      rintro e w2 ⟨rfl, b2⟩
      have h2 := row_later h1 b2
      have b12 := below_step b1 b2 b1.size
      clear h1 b1 b2 ct sm
      go_wp2
      go_loop [5, 20] (fun s k => ∃ i : Nat, i ≤ n ∧ okTo f i = true ∧ s = .int .i64 (sumTo f i) ∧ k = .int .i64 i) (fun _ k => n - (intOf k).toNat)
      case atStart => exact ⟨0, Nat.zero_le _, rfl, rfl, rfl⟩
      case round =>
        obtain ⟨i, hi, hk, rfl, rfl⟩ := hrel
        by_cases hlt : i < n
        · obtain ⟨b, o, rfl, hc⟩ := h2 (by omega)
          have hcell := hc i hlt
          have hm := okTo_amt hk
          obtain ⟨m1, m2⟩ := amtB_yes hm
          have hs : okTo f (i + 1) = (amtB (f i) && amtB (sumTo f i + f i)) := by rw [okTo, hk]; rfl
          have hT : sumTo f (i + 1) = sumTo f i + f i := rfl
          cases hx : amtB (f i)
          · have ra := fun w => refright_b (f i) false hx w
            clear hx hs hT hc h2 hm hk
            generalize sumTo f i = s at *
            go_wp2_with (fail)
            refine (ra _).mono ?_
            rintro e w' ⟨rfl, rfl⟩
            go_wp2
            go_ret
            exact ⟨rfl, b12⟩
          · obtain ⟨x1, x2⟩ := amtB_yes hx
            have ra := fun w => refright_b (f i) true hx w
            cases hy : amtB (sumTo f i + f i)
            · have rs := fun w => refright_b (sumTo f i + f i) false hy w
              clear hx hy hs hT hc h2 hm hk
              generalize sumTo f i = s at *
              go_wp2_with (fail)
              refine (ra _).mono ?_
              rintro e w' ⟨rfl, rfl⟩
              go_wp2_with (fail)
              refine (rs _).mono ?_
              rintro e w' ⟨rfl, rfl⟩
              go_wp2
              go_ret
              exact ⟨rfl, b12⟩
            · have rs := fun w => refright_b (sumTo f i + f i) true hy w
              have HS := Lib.hid (show okTo f (i + 1) = true by rw [hs, hx, hy]; rfl)
              have HT := Lib.hid hT
              clear hx hy hs hT hc hm hk
              generalize sumTo f i = s at *
              go_wp2_with (fail)
              refine (ra _).mono ?_
              rintro e w' ⟨rfl, rfl⟩
              go_wp2_with (fail)
              refine (rs _).mono ?_
              rintro e w' ⟨rfl, rfl⟩
              go_wp2
              go_round
              case rel => exact ⟨i + 1, by omega, HS.out, by rw [HT.out], by go_num⟩
              case measure => simp [intOf]; omega
        · obtain rfl : i = n := by omega
          exact absurd (HK.out.symm.trans hk) (by simp)
    · have hE : sumR f n = (sumTo f n, 0) := by simp [sumR, hk]
      rw [hE] at sm
      have HK := Lib.hid hk
      clear hE hk
      have HN : ∃ z, z = sumTo f n := ⟨_, rfl⟩
      obtain ⟨z, hz⟩ := HN
      rw [← hz] at sm
      have HZ := Lib.hid hz
      clear hz
      go_enter Tryd.func4, Tryd.ntmps4
      go_wp2_with (fail)
      refine ct.mono ?_
      rintro e w1 ⟨rfl, b1⟩
      have h1 := row_later h b1
      clear h
      go_wp2_with (fail)
      refine (sm _ h1).mono ?_
      rintro e w2 ⟨rfl, b2⟩
      have h2 := row_later h1 b2
      have b12 := below_step b1 b2 b1.size
      clear h1 b1 b2 ct sm
      go_wp2
      go_loop [5, 20] (fun s k => ∃ i : Nat, i ≤ n ∧ okTo f i = true ∧ s = .int .i64 (sumTo f i) ∧ k = .int .i64 i) (fun _ k => n - (intOf k).toNat)
      case atStart => exact ⟨0, Nat.zero_le _, rfl, rfl, rfl⟩
      case round =>
        obtain ⟨i, hi, hk, rfl, rfl⟩ := hrel
        by_cases hlt : i < n
        · obtain ⟨b, o, rfl, hc⟩ := h2 (by omega)
          have hcell := hc i hlt
          have hm := okTo_amt hk
          obtain ⟨m1, m2⟩ := amtB_yes hm
          have hs : okTo f (i + 1) = (amtB (f i) && amtB (sumTo f i + f i)) := by rw [okTo, hk]; rfl
          have hT : sumTo f (i + 1) = sumTo f i + f i := rfl
          have hSi : okTo f (i + 1) = true := by
            cases e : okTo f (i + 1)
            · exact absurd ((okTo_false e hlt).symm.trans HK.out) (by simp)
            · rfl
          obtain ⟨hx, hy⟩ := Bool.and_eq_true_iff.1 (hs.symm.trans hSi)
          obtain ⟨x1, x2⟩ := amtB_yes hx
          have ra := fun w => refright_b (f i) true hx w
          have rs := fun w => refright_b (sumTo f i + f i) true hy w
          have HS := Lib.hid hSi
          have HT := Lib.hid hT
          clear hx hy hs hT hc hm hk hSi
          generalize sumTo f i = s at *
          go_wp2_with (fail)
          refine (ra _).mono ?_
          rintro e w' ⟨rfl, rfl⟩
          go_wp2_with (fail)
          refine (rs _).mono ?_
          rintro e w' ⟨rfl, rfl⟩
          go_wp2
          go_round
          case rel => exact ⟨i + 1, by omega, HS.out, by rw [HT.out], by go_num⟩
          case measure => simp [intOf]; omega
        · obtain rfl : i = n := by omega
          have hz : (z == sumTo f i) = true := by rw [HZ.out]; exact beq_self_eq_true _
          clear hk
          generalize sumTo f i = s at *
          go_wp2
          go_ret
          exact ⟨by simp [hz], b12⟩
  · have h100 : (100 : Int) < n := by omega
    go_enter Tryd.func4, Tryd.ntmps4
    go_wp2_with (fail)
    refine ct.mono ?_
    rintro e w1 ⟨rfl, b1⟩
    go_wp2
    go_ret
    exact ⟨rfl, b1⟩
end Go.Proofs.YtjjeohnejhhacaaDoor
