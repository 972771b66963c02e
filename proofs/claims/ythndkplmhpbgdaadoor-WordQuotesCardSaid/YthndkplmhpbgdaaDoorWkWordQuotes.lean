/- WordQuotes: the whole walk. -/
import Derived.Test.YthndkplmhpbgdaaDoorWrdI
namespace Go.Proofs.YthndkplmhpbgdaaDoor
open Go.RowKit
set_option linter.unusedVariables false
set_option linter.unusedSimpArgs false

/-- Quote, by what it answers -/
theorem quote_v (s : ByteArray) (hs : s.size ≤ 281474976710656) (T : ByteArray) (v : Int) (h1 : quoV s.data.toList = T.data.toList) (h2 : quoE s.data.toList = v) (w : World) : Calls Tryd.prog 19 #[.string s] w fun e w' => e = .returned (.tuple #[.string T, .int .i64 v]) ∧ Below w.heap.size w w' := by
  refine (quote_any s w hs).mono ?_
  rintro e w' ⟨rfl, hb⟩
  refine ⟨?_, hb⟩
  rw [h1, h2, data_self]
set_option maxHeartbeats 4000000 in
set_option maxRecDepth 100000 in
theorem wWordQuotes (s : ByteArray) (w : World) (hs : s.size ≤ 9223372036854775807) : Calls Tryd.prog 4 #[.string s] w fun e w' => e = .returned (.bool true) ∧ Below w.heap.size w w' := by
  by_cases h500 : 500 < s.size
  · have g : (500 : Int) < s.size := by omega
    go_enter Tryd.func4, Tryd.ntmps4
    go_wp2_with (fail)
    refine (reads_any _).mono ?_
    rintro e w1 ⟨rfl, B1⟩
    go_wp2
    go_ret
    exact ⟨rfl, B1⟩
  have g : ¬ (500 : Int) < s.size := by omega
  cases ha : s.data.toList.all shwB
  · have qu := fun w => quote_v s (by omega) ⟨#[]⟩ 5 (by unfold quoV; rw [if_neg (by simp [ha])]) (by unfold quoE; rw [if_neg (by simp [ha])]) w
    have h0 : 0 < s.size := by
      rcases Nat.eq_zero_or_pos s.size with h0 | h0
      · rw [List.length_eq_zero_iff.1 (show s.data.toList.length = 0 by simp [h0])] at ha
        simp at ha
      · exact h0
    have te := toList_some s h0
    have HNO := Lib.hid ha
    clear ha
    go_enter Tryd.func4, Tryd.ntmps4
    go_wp2_with (fail)
    refine (reads_any _).mono ?_
    rintro e w1 ⟨rfl, B1⟩
    go_wp2_with (fail)
    refine (qu _).mono ?_
    rintro e w2 ⟨rfl, hb⟩
    have B2 := below_step B1 hb B1.size
    clear hb B1
    go_wp2
    go_loop [5, 23] (fun b i => ∃ j : Nat, j ≤ s.size ∧ i = .int .i64 j ∧ b = .bool ((s.data.toList.take j).all plnB) ∧ (s.data.toList.take j).all shwB = true) (fun _ i => s.size - (intOf i).toNat)
    case atStart => exact ⟨0, Nat.zero_le _, rfl, by simp, by simp⟩
    case round =>
      obtain ⟨j, hj, rfl, rfl, ha⟩ := hrel
      by_cases hlt : j < s.size
      · have hta := all_take hlt ha
        cases hc : shwB s[j]
        · have sh := fun w => shown_b s[j] false hc w
          clear hc ha hta
          generalize (s.data.toList.take j).all plnB = pp at *
          go_wp2_with (fail)
          refine (sh _).mono ?_
          rintro e w' ⟨rfl, rfl⟩
          go_wp2
          go_ret
          exact ⟨rfl, B2⟩
        · have HA := Lib.hid (hta.trans hc)
          have sh := fun w => shown_b s[j] true hc w
          obtain ⟨v, hv⟩ : ∃ v, plnB s[j] = v := ⟨_, rfl⟩
          have pl := fun w => plain_b s[j] v hv w
          have HQ := Lib.hid (show (s.data.toList.take (j + 1)).all plnB = ((s.data.toList.take j).all plnB && v) by rw [byte_take s j hlt, List.all_append]; simp [hv])
          clear ha hc hta hv
          cases hp : (s.data.toList.take j).all plnB
          · rw [hp] at HQ
            clear hp pl
            go_wp2_with (fail)
            refine (sh _).mono ?_
            rintro e w' ⟨rfl, rfl⟩
            go_wp2
            go_round
            case rel => exact ⟨j + 1, by omega, by go_num, by rw [HQ.out]; rfl, HA.out⟩
            case measure => simp [intOf]; omega
          · rw [hp] at HQ
            clear hp
            go_wp2_with (fail)
            refine (sh _).mono ?_
            rintro e w' ⟨rfl, rfl⟩
            go_wp2_with (fail)
            refine (pl _).mono ?_
            rintro e w' ⟨rfl, rfl⟩
            go_wp2
            go_round
            case rel => exact ⟨j + 1, by omega, by go_num, by rw [HQ.out]; rfl, HA.out⟩
            case measure => simp [intOf]; omega
      · obtain rfl : j = s.size := by omega
        rw [take_all] at ha ⊢
        rw [HNO.out] at ha
        cases ha
  have hlen : (quoV s.data.toList).length ≤ 512 := by have := quo_len (l := s.data.toList); rw [data_len] at this; omega
  have hcw := cut_word ha hlen
  rcases Nat.eq_zero_or_pos s.size with h0 | h0
  · obtain rfl : s = ⟨#[]⟩ := by rw [← data_self s, List.length_eq_zero_iff.1 (show s.data.toList.length = 0 by simp [h0])]
    have qu := fun w => quote_v ⟨#[]⟩ (by decide) ⟨#[34, 34]⟩ 0 rfl rfl w
    have cu := fun w => cut_any ⟨#[34, 34]⟩ w (by decide)
    have HC := Lib.hid (show cutV (⟨#[34, 34]⟩ : ByteArray).data.toList = ([[]], 0) from by decide +kernel)
    have hx : (([34, 34] : List UInt8) == ((⟨#[34]⟩ : ByteArray) ++ ⟨#[]⟩ ++ ⟨#[34]⟩).toList) = true := by decide +kernel
    clear h0 g h500 ha hlen hcw hs
    go_enter Tryd.func4, Tryd.ntmps4
    go_wp2_with (fail)
    refine (reads_any _).mono ?_
    rintro e w1 ⟨rfl, B1⟩
    go_wp2_with (fail)
    refine (qu _).mono ?_
    rintro e w2 ⟨rfl, hb⟩
    have B2 := below_step B1 hb B1.size
    clear hb B1
    go_wp2
    refine wp_loop_rounds 1 ?_
    rw [rounds_succ]
    go_wp2_with (fail)
    refine (cu _).mono ?_
    rintro e w3 ⟨v, rfl, hr, hb⟩
    have B3 := below_step B2 hb B2.size
    rw [HC.out] at hr ⊢
    obtain ⟨A, cc, rfl, hrow⟩ := rs_row hr
    obtain ⟨bb, rfl, _, hcell0⟩ := hrow 0 (by simp)
    have hcell : w3.cell? ⟨bb, 0, none⟩ = some (.string ⟨#[]⟩) := hcell0
    clear hrow hr hcell0
    go_wp2
    go_ret
    exact ⟨rfl, B3⟩
  have te := toList_some s h0
  have he : s.data.toList.isEmpty = false := by rw [cons_of s h0]; rfl
  have HALL := Lib.hid ha
  cases hp : s.data.toList.all plnB
  · have hn : needB s.data.toList = true := by unfold needB; rw [hp]; simp
    have hq : quoV s.data.toList = (⟨#[34]⟩ ++ s ++ ⟨#[34]⟩ : ByteArray).data.toList := by unfold quoV; rw [if_pos ha, if_pos hn]; simp [ByteArray.data_append]
    have qu := fun w => quote_v s (by omega) (⟨#[34]⟩ ++ s ++ ⟨#[34]⟩) 0 hq (by unfold quoE; rw [if_pos ha]) w
    have cu := fun w => cut_any (⟨#[34]⟩ ++ s ++ ⟨#[34]⟩) w (by rw [ByteArray.size_append, ByteArray.size_append]; show 1 + s.size + 1 ≤ _; omega)
    rw [hq] at hcw
    have HC := Lib.hid hcw
    have HP := Lib.hid hp
    have n1 : ¬ 9223372036854775807 < 1 + s.size := by omega
    have n2 : ¬ 9223372036854775807 < 1 + s.size + 1 := by omega
    clear ha hp hn hq hcw hlen he
    go_enter Tryd.func4, Tryd.ntmps4
    go_wp2_with (fail)
    refine (reads_any _).mono ?_
    rintro e w1 ⟨rfl, B1⟩
    go_wp2_with (fail)
    refine (qu _).mono ?_
    rintro e w2 ⟨rfl, hb⟩
    have B2 := below_step B1 hb B1.size
    clear hb B1
    go_wp2
    go_loop [5, 23] (fun b i => ∃ j : Nat, j ≤ s.size ∧ i = .int .i64 j ∧ b = .bool ((s.data.toList.take j).all plnB) ∧ (s.data.toList.take j).all shwB = true) (fun _ i => s.size - (intOf i).toNat)
    case atStart => exact ⟨0, Nat.zero_le _, rfl, by simp, by simp⟩
    case round =>
      obtain ⟨j, hj, rfl, rfl, ha⟩ := hrel
      by_cases hlt : j < s.size
      · have hta := all_take hlt ha
        cases hc : shwB s[j]
        · exact absurd (HALL.out.symm.trans (all_bad hlt hc)) (by simp)
        · have HA := Lib.hid (hta.trans hc)
          have sh := fun w => shown_b s[j] true hc w
          obtain ⟨v, hv⟩ : ∃ v, plnB s[j] = v := ⟨_, rfl⟩
          have pl := fun w => plain_b s[j] v hv w
          have HQ := Lib.hid (show (s.data.toList.take (j + 1)).all plnB = ((s.data.toList.take j).all plnB && v) by rw [byte_take s j hlt, List.all_append]; simp [hv])
          clear ha hc hta hv
          cases hp : (s.data.toList.take j).all plnB
          · rw [hp] at HQ
            clear hp pl
            go_wp2_with (fail)
            refine (sh _).mono ?_
            rintro e w' ⟨rfl, rfl⟩
            go_wp2
            go_round
            case rel => exact ⟨j + 1, by omega, by go_num, by rw [HQ.out]; rfl, HA.out⟩
            case measure => simp [intOf]; omega
          · rw [hp] at HQ
            clear hp
            go_wp2_with (fail)
            refine (sh _).mono ?_
            rintro e w' ⟨rfl, rfl⟩
            go_wp2_with (fail)
            refine (pl _).mono ?_
            rintro e w' ⟨rfl, rfl⟩
            go_wp2
            go_round
            case rel => exact ⟨j + 1, by omega, by go_num, by rw [HQ.out]; rfl, HA.out⟩
            case measure => simp [intOf]; omega
      · obtain rfl : j = s.size := by omega
        rw [take_all] at ha ⊢
        rw [HP.out]
        clear ha
        go_wp2_with (fail)
        refine (cu _).mono ?_
        rintro e w3 ⟨v, rfl, hr, hb⟩
        have B3 := below_step B2 hb B2.size
        rw [HC.out] at hr ⊢
        obtain ⟨A, cc, rfl, hrow⟩ := rs_row hr
        obtain ⟨bb, rfl, _, hcell0⟩ := hrow 0 (by simp)
        have hcell : w3.cell? ⟨bb, 0, none⟩ = some (.string s) := by rw [hcell0]; show some (Value.string ⟨s.data.toList.toArray⟩) = _; rw [data_self]
        clear hrow hr hcell0
        have eqs : ∀ W, (binOp .eql 9 (.string s) (.string s)).run Tryd.prog W = .ok (.bool true) W := fun _ => by simp [go_sem]
        go_wp2
        go_ret
        exact ⟨rfl, B3⟩
  · have hn : needB s.data.toList = false := by unfold needB; rw [hp, he]; rfl
    have hq : quoV s.data.toList = s.data.toList := by unfold quoV; rw [if_pos ha, if_neg (by simp [hn])]
    have qu := fun w => quote_v s (by omega) s 0 hq (by unfold quoE; rw [if_pos ha]) w
    have cu := fun w => cut_any s w (by omega)
    rw [hq] at hcw
    have HC := Lib.hid hcw
    have HP := Lib.hid hp
    clear ha hp hn hq hcw hlen he
    go_enter Tryd.func4, Tryd.ntmps4
    go_wp2_with (fail)
    refine (reads_any _).mono ?_
    rintro e w1 ⟨rfl, B1⟩
    go_wp2_with (fail)
    refine (qu _).mono ?_
    rintro e w2 ⟨rfl, hb⟩
    have B2 := below_step B1 hb B1.size
    clear hb B1
    go_wp2
    go_loop [5, 23] (fun b i => ∃ j : Nat, j ≤ s.size ∧ i = .int .i64 j ∧ b = .bool ((s.data.toList.take j).all plnB) ∧ (s.data.toList.take j).all shwB = true) (fun _ i => s.size - (intOf i).toNat)
    case atStart => exact ⟨0, Nat.zero_le _, rfl, by simp, by simp⟩
    case round =>
      obtain ⟨j, hj, rfl, rfl, ha⟩ := hrel
      by_cases hlt : j < s.size
      · have hta := all_take hlt ha
        cases hc : shwB s[j]
        · exact absurd (HALL.out.symm.trans (all_bad hlt hc)) (by simp)
        · have HA := Lib.hid (hta.trans hc)
          have sh := fun w => shown_b s[j] true hc w
          obtain ⟨v, hv⟩ : ∃ v, plnB s[j] = v := ⟨_, rfl⟩
          have pl := fun w => plain_b s[j] v hv w
          have HQ := Lib.hid (show (s.data.toList.take (j + 1)).all plnB = ((s.data.toList.take j).all plnB && v) by rw [byte_take s j hlt, List.all_append]; simp [hv])
          clear ha hc hta hv
          cases hp : (s.data.toList.take j).all plnB
          · rw [hp] at HQ
            clear hp pl
            go_wp2_with (fail)
            refine (sh _).mono ?_
            rintro e w' ⟨rfl, rfl⟩
            go_wp2
            go_round
            case rel => exact ⟨j + 1, by omega, by go_num, by rw [HQ.out]; rfl, HA.out⟩
            case measure => simp [intOf]; omega
          · rw [hp] at HQ
            clear hp
            go_wp2_with (fail)
            refine (sh _).mono ?_
            rintro e w' ⟨rfl, rfl⟩
            go_wp2_with (fail)
            refine (pl _).mono ?_
            rintro e w' ⟨rfl, rfl⟩
            go_wp2
            go_round
            case rel => exact ⟨j + 1, by omega, by go_num, by rw [HQ.out]; rfl, HA.out⟩
            case measure => simp [intOf]; omega
      · obtain rfl : j = s.size := by omega
        rw [take_all] at ha ⊢
        rw [HP.out]
        clear ha
        go_wp2_with (fail)
        refine (cu _).mono ?_
        rintro e w3 ⟨v, rfl, hr, hb⟩
        have B3 := below_step B2 hb B2.size
        rw [HC.out] at hr ⊢
        obtain ⟨A, cc, rfl, hrow⟩ := rs_row hr
        obtain ⟨bb, rfl, _, hcell0⟩ := hrow 0 (by simp)
        have hcell : w3.cell? ⟨bb, 0, none⟩ = some (.string s) := by rw [hcell0]; show some (Value.string ⟨s.data.toList.toArray⟩) = _; rw [data_self]
        clear hrow hr hcell0
        have eqs : ∀ W, (binOp .eql 9 (.string s) (.string s)).run Tryd.prog W = .ok (.bool true) W := fun _ => by simp [go_sem]
        go_wp2
        go_ret
        exact ⟨rfl, B3⟩
end Go.Proofs.YthndkplmhpbgdaaDoor
