/- WordJoins: the whole walk. -/
import Derived.Test.YthndkplmhpbgdaaDoorWrdJ
import Derived.Lib.QuietBelow
import Derived.BigQuiet
namespace Go.Proofs.YthndkplmhpbgdaaDoor
open Go.RowKit Go.Sort
set_option linter.unusedVariables false
set_option linter.unusedSimpArgs false
theorem mixedAll : Tryd.prog.follows .mixedOrders = true := by kernel_rfl
/-- the words of a row -/
def wds (f : Nat → ByteArray) (n : Nat) : List (List UInt8) := (List.range n).map fun i => (f i).data.toList
theorem wds_len (f : Nat → ByteArray) (n : Nat) : (wds f n).length = n := by simp [wds]
theorem wds_at (f : Nat → ByteArray) {n i : Nat} (h : i < n) : (wds f n).getD i [] = (f i).data.toList := by simp [wds, List.getD, h]
theorem wds_row {w : World} {A : Option Addr} {n : Nat} {f : Nat → ByteArray} (h : rowAt w A n fun i => .string (f i)) : rowAt w A n fun i => sv ((wds f n).getD i []) := fun h0 => by
  obtain ⟨b, o, e, hc⟩ := h h0
  refine ⟨b, o, e, fun i hi => (hc i hi).trans ?_⟩
  show some (Value.string (f i)) = some (sv ((wds f n).getD i []))
  rw [wds_at f hi]
  show some (Value.string (f i)) = some (Value.string ⟨(f i).data.toList.toArray⟩)
  rw [data_self]
theorem quo_long (l : List UInt8) (h : l.all shwB = true) : (quoV l).length = l.length + (if needB l = true then 2 else 0) := by
  unfold quoV
  rw [if_pos h]
  split <;> simp
set_option maxHeartbeats 8000000 in
set_option maxRecDepth 100000 in
theorem wWordJoins (A : Option Addr) (n c : Nat) (f : Nat → ByteArray) (w : World) (hr : rowAt w A n fun i => .string (f i)) (hn : n ≤ 9223372036854775807) (hf : ∀ i, i < n → (f i).size ≤ 140737488355328) :
    Calls Tryd.prog 3 #[.slice A n c] w fun e w' => e = .returned (.bool true) ∧ Below w.heap.size w w' := by
  by_cases h60 : 60 < n
  · have g : (60 : Int) < n := by omega
    go_enter Tryd.func3, Tryd.ntmps3
    go_wp2_with (fail)
    refine (reads_any _).mono ?_
    rintro e w1 ⟨rfl, B1⟩
    go_wp2
    go_ret
    exact ⟨rfl, B1⟩
  have g : ¬ (60 : Int) < n := by omega
  have jn := fun (W : World) (hW : Below w.heap.size w W) => join_any (wds f n) A n c W (wds_len f n).symm (wds_row fun h0 => by
    obtain ⟨b, o, e, hc⟩ := hr h0
    exact ⟨b, o, e, fun i hi => cell_later hW (hc i hi)⟩) (fun i hi => by rw [wds_len] at hi; rw [wds_at f hi, data_len]; exact hf i hi) (by rw [wds_len]; omega)
  have HR := Lib.hid hr
  have HF := Lib.hid hf
  obtain ⟨⟨J, ej⟩, hJ⟩ : ∃ v, joiV (wds f n) = v := ⟨_, rfl⟩
  have HJ := Lib.hid hJ
  have HL := Lib.hid (wds_len f n)
  have HA := Lib.hid (fun i (h : i < n) => wds_at f h)
  obtain ⟨T, hT⟩ : ∃ T : ByteArray, T = ⟨J.toArray⟩ := ⟨_, rfl⟩
  have HT := Lib.hid hT
  have HTZ := Lib.hid (show J = [] → T.toList = [] from fun e => by rw [hT, e, Lib.toList_data])
  have jn2 : ∀ W : World, Below w.heap.size w W → Calls Tryd.prog 15 #[.slice A n c] W fun e w' => e = .returned (.tuple #[.string T, .int .i64 ej]) ∧ Below W.heap.size W w' := fun W hW => by
    refine (jn W hW).mono ?_
    rintro e w' ⟨rfl, hb⟩
    refine ⟨?_, hb⟩
    rw [hJ, hT]
  have JN := Lib.hid jn2
  have HTL := Lib.hid (show T.size = J.length by rw [hT]; show J.toArray.size = _; simp)
  clear jn jn2 hr hf hJ hT
  by_cases h32 : 32 < n
  · have g32 : (32 : Int) < n := by omega
    have hv : joiV (wds f n) = ([], 2) := by unfold joiV; rw [HL.out, if_pos h32]
    have h1 := HJ.out.symm.trans hv
    simp only [Prod.mk.injEq] at h1
    obtain ⟨rfl, rfl⟩ := h1
    clear hv
    have te := HTZ.out rfl
    go_enter Tryd.func3, Tryd.ntmps3
    go_wp2_with (fail)
    refine (reads_any _).mono ?_
    rintro e w1 ⟨rfl, B1⟩
    go_wp2_with (fail)
    refine (JN.out _ B1).mono ?_
    rintro e w2 ⟨rfl, hb⟩
    have B2 := below_step B1 hb B1.size
    go_wp2
    go_ret
    exact ⟨rfl, B2⟩
  have g32 : ¬ (32 : Int) < n := by omega
  have HG0 := Lib.hid (show joiG [] true (wds f n) = (J, ej) by rw [← HJ.out]; unfold joiV; rw [HL.out, if_neg h32])
  go_enter Tryd.func3, Tryd.ntmps3
  go_wp2_with (fail)
  refine (reads_any _).mono ?_
  rintro e w1 ⟨rfl, B1⟩
  go_wp2_with (fail)
  refine (JN.out _ B1).mono ?_
  rintro e w2 ⟨rfl, hb⟩
  have B2 := below_step B1 hb B1.size
  clear hb B1 JN
  go_wp2
  go_loop [5, 34] (fun z i => ∃ (line : List UInt8) (j : Nat), j ≤ n ∧ i = .int .i64 j ∧ z = .int .i64 (line.length : Nat) ∧ line.length ≤ 512 ∧ Hid (joiG line (decide (j = 0)) ((wds f n).drop j) = (J, ej))) (fun _ i => n - (intOf i).toNat)
  case atStart => exact ⟨[], 0, Nat.zero_le _, rfl, rfl, by simp, Lib.hid (by rw [List.drop_zero]; exact HG0.out)⟩
  case round =>
    obtain ⟨line, j, hj, rfl, rfl, hll, HG⟩ := hrel
    by_cases hlt : j < n
    · obtain ⟨b, o, rfl, hcell⟩ := HR.out (by omega)
      have cell : w2.cell? ⟨b, o + j, none⟩ = some (.string (f j)) := cell_later B2 (hcell j hlt)
      have hg := HG.out
      rw [drop_getD _ j (by rw [HL.out]; exact hlt), HA.out j hlt] at hg
      simp only [joiG] at hg
      clear hcell HG
      generalize f j = s at *
      by_cases h600 : 600 < s.size
      · have g6 : (600 : Int) < s.size := by omega
        clear hg
        go_wp2
        go_ret
        exact ⟨rfl, B2⟩
      have g6 : ¬ (600 : Int) < s.size := by omega
      rcases Nat.eq_zero_or_pos s.size with s0 | s0
      · have te := toList_none s s0
        have hnb : needB s.data.toList = true := by rw [List.length_eq_zero_iff.1 (show s.data.toList.length = 0 by simp [s0])]; rfl
        have ha : s.data.toList.all shwB = true := by rw [List.length_eq_zero_iff.1 (show s.data.toList.length = 0 by simp [s0])]; rfl
        have HALL := Lib.hid ha
        rw [if_pos ha] at hg
        have hm := quo_long _ ha
        rw [if_pos hnb, data_len] at hm
        obtain ⟨M, hM⟩ : ∃ M, line ++ (if decide (j = 0) = true then [] else [32]) ++ quoV s.data.toList = M := ⟨_, rfl⟩
        rw [hM] at hg
        have hMl := congrArg List.length hM
        rw [List.length_append, List.length_append, hm] at hMl
        clear hM hm
        by_cases hj0 : j = 0
        · have hd : decide (j = 0) = true := decide_eq_true hj0
          simp only [hd, if_true, List.length_nil, List.length_cons] at hMl
          have p1 : (j : Int) ≤ 0 := by omega
          have p2 : (j : Int) < 1 := by omega
          clear hd hj0
          by_cases h5 : 512 < M.length
          · rw [if_pos h5, Prod.mk.injEq] at hg
            obtain ⟨rfl, rfl⟩ := hg
            have teT := HTZ.out rfl
            go_wp2
            go_loop [8, 46] (fun b i => ∃ k : Nat, k ≤ s.size ∧ i = .int .i64 k ∧ b = .bool (false && (s.data.toList.take k).all plnB) ∧ (s.data.toList.take k).all shwB = true) (fun _ i => s.size - (intOf i).toNat)
            case atStart => exact ⟨0, Nat.zero_le _, rfl, by simp, by simp⟩
            case round =>
              obtain ⟨k, hk, rfl, rfl, hb8⟩ := hrel
              by_cases hlk : k < s.size
              · exact absurd hlk (by omega)
              · obtain rfl : k = s.size := by omega
                clear hlk hk hb8
                rw [take_all]
                go_wp2
                go_ret
                exact ⟨rfl, B2⟩
          · rw [if_neg h5] at hg
            have HG2 := Lib.hid hg
            clear hg
            go_wp2
            go_loop [8, 46] (fun b i => ∃ k : Nat, k ≤ s.size ∧ i = .int .i64 k ∧ b = .bool (false && (s.data.toList.take k).all plnB) ∧ (s.data.toList.take k).all shwB = true) (fun _ i => s.size - (intOf i).toNat)
            case atStart => exact ⟨0, Nat.zero_le _, rfl, by simp, by simp⟩
            case round =>
              obtain ⟨k, hk, rfl, rfl, hb8⟩ := hrel
              by_cases hlk : k < s.size
              · exact absurd hlk (by omega)
              · obtain rfl : k = s.size := by omega
                clear hlk hk hb8
                rw [take_all]
                go_wp2
                go_round
                case rel => exact ⟨M, j + 1, by omega, by go_num, congrArg (Value.int .i64) (by omega), by omega, by rw [show decide (j + 1 = 0) = false from rfl]; exact HG2.out⟩
                case measure => simp [intOf]; omega
        · have hd : decide (j = 0) = false := decide_eq_false hj0
          simp only [hd, Bool.false_eq_true, if_false, List.length_nil, List.length_cons] at hMl
          have p1 : (j : Int) ≥ 1 := by omega
          have p2 : ¬ (j : Int) < 1 := by omega
          have p3 : (1 : Int) ≤ (j : Int) := by omega
          clear hd hj0
          by_cases h5 : 512 < M.length
          · rw [if_pos h5, Prod.mk.injEq] at hg
            obtain ⟨rfl, rfl⟩ := hg
            have teT := HTZ.out rfl
            go_wp2
            go_loop [8, 46] (fun b i => ∃ k : Nat, k ≤ s.size ∧ i = .int .i64 k ∧ b = .bool (false && (s.data.toList.take k).all plnB) ∧ (s.data.toList.take k).all shwB = true) (fun _ i => s.size - (intOf i).toNat)
            case atStart => exact ⟨0, Nat.zero_le _, rfl, by simp, by simp⟩
            case round =>
              obtain ⟨k, hk, rfl, rfl, hb8⟩ := hrel
              by_cases hlk : k < s.size
              · exact absurd hlk (by omega)
              · obtain rfl : k = s.size := by omega
                clear hlk hk hb8
                rw [take_all]
                go_wp2
                go_ret
                exact ⟨rfl, B2⟩
          · rw [if_neg h5] at hg
            have HG2 := Lib.hid hg
            clear hg
            go_wp2
            go_loop [8, 46] (fun b i => ∃ k : Nat, k ≤ s.size ∧ i = .int .i64 k ∧ b = .bool (false && (s.data.toList.take k).all plnB) ∧ (s.data.toList.take k).all shwB = true) (fun _ i => s.size - (intOf i).toNat)
            case atStart => exact ⟨0, Nat.zero_le _, rfl, by simp, by simp⟩
            case round =>
              obtain ⟨k, hk, rfl, rfl, hb8⟩ := hrel
              by_cases hlk : k < s.size
              · exact absurd hlk (by omega)
              · obtain rfl : k = s.size := by omega
                clear hlk hk hb8
                rw [take_all]
                go_wp2
                go_round
                case rel => exact ⟨M, j + 1, by omega, by go_num, congrArg (Value.int .i64) (by omega), by omega, by rw [show decide (j + 1 = 0) = false from rfl]; exact HG2.out⟩
                case measure => simp [intOf]; omega
      · have te := toList_some s s0
        have hie : s.data.toList.isEmpty = false := by rw [cons_of s s0]; rfl
        cases ha : s.data.toList.all shwB
        · rw [ha] at hg
          simp only [Bool.false_eq_true, if_false, Prod.mk.injEq] at hg
          obtain ⟨rfl, rfl⟩ := hg
          have teT := HTZ.out rfl
          have HNO := Lib.hid ha
          clear ha
          go_wp2
          go_loop [8, 46] (fun b i => ∃ k : Nat, k ≤ s.size ∧ i = .int .i64 k ∧ b = .bool (true && (s.data.toList.take k).all plnB) ∧ (s.data.toList.take k).all shwB = true) (fun _ i => s.size - (intOf i).toNat)
          case atStart => exact ⟨0, Nat.zero_le _, rfl, by simp, by simp⟩
          case round =>
            obtain ⟨k, hk, rfl, rfl, hb8⟩ := hrel
            by_cases hlk : k < s.size
            · cases hc : shwB s[k]
              · have sh := fun w => shown_b s[k] false hc w
                clear hc hb8
                generalize (s.data.toList.take k).all plnB = pp at *
                go_wp2_with (fail)
                refine (sh _).mono ?_
                rintro e w' ⟨rfl, rfl⟩
                go_wp2
                go_ret
                exact ⟨rfl, B2⟩
              · have HA2 := Lib.hid ((all_take hlk hb8).trans hc)
                have sh := fun w => shown_b s[k] true hc w
                obtain ⟨v, hv⟩ : ∃ v, plnB s[k] = v := ⟨_, rfl⟩
                have pl := fun w => plain_b s[k] v hv w
                have HQ := Lib.hid (show (s.data.toList.take (k + 1)).all plnB = ((s.data.toList.take k).all plnB && v) by rw [byte_take s k hlk, List.all_append]; simp [hv])
                clear hb8 hc hv
                cases hp2 : (s.data.toList.take k).all plnB
                · rw [hp2] at HQ
                  clear hp2 pl
                  go_wp2_with (fail)
                  refine (sh _).mono ?_
                  rintro e w' ⟨rfl, rfl⟩
                  go_wp2
                  go_round
                  case rel => exact ⟨k + 1, by omega, by go_num, by rw [HQ.out]; rfl, HA2.out⟩
                  case measure => simp [intOf]; omega
                · rw [hp2] at HQ
                  clear hp2
                  go_wp2_with (fail)
                  refine (sh _).mono ?_
                  rintro e w' ⟨rfl, rfl⟩
                  go_wp2_with (fail)
                  refine (pl _).mono ?_
                  rintro e w' ⟨rfl, rfl⟩
                  go_wp2
                  go_round
                  case rel => exact ⟨k + 1, by omega, by go_num, by rw [HQ.out]; rfl, HA2.out⟩
                  case measure => simp [intOf]; omega
            · obtain rfl : k = s.size := by omega
              rw [take_all] at hb8
              exact absurd (HNO.out.symm.trans hb8) (by simp)
        · rw [if_pos ha] at hg
          have HALL := Lib.hid ha
          have hm := quo_long _ ha
          cases hp : s.data.toList.all plnB
          · have hnb : needB s.data.toList = true := by unfold needB; rw [hp, hie]; rfl
            have HP := Lib.hid hp
            rw [hnb, data_len] at hm
            simp only [if_true] at hm
            clear hp ha hnb hie
            obtain ⟨M, hM⟩ : ∃ M, line ++ (if decide (j = 0) = true then [] else [32]) ++ quoV s.data.toList = M := ⟨_, rfl⟩
            rw [hM] at hg
            have hMl := congrArg List.length hM
            rw [List.length_append, List.length_append, hm] at hMl
            clear hM hm
            by_cases hj0 : j = 0
            · have hd : decide (j = 0) = true := decide_eq_true hj0
              simp only [hd, if_true, List.length_nil, List.length_cons] at hMl
              have p1 : (j : Int) ≤ 0 := by omega
              have p2 : (j : Int) < 1 := by omega
              clear hd hj0
              by_cases h5 : 512 < M.length
              · rw [if_pos h5, Prod.mk.injEq] at hg
                obtain ⟨rfl, rfl⟩ := hg
                have teT := HTZ.out rfl
                go_wp2
                go_loop [8, 46] (fun b i => ∃ k : Nat, k ≤ s.size ∧ i = .int .i64 k ∧ b = .bool (true && (s.data.toList.take k).all plnB) ∧ (s.data.toList.take k).all shwB = true) (fun _ i => s.size - (intOf i).toNat)
                case atStart => exact ⟨0, Nat.zero_le _, rfl, by simp, by simp⟩
                case round =>
                  obtain ⟨k, hk, rfl, rfl, hb8⟩ := hrel
                  by_cases hlk : k < s.size
                  · cases hc : shwB s[k]
                    · exact absurd (HALL.out.symm.trans (all_bad hlk hc)) (by simp)
                    · have HA2 := Lib.hid ((all_take hlk hb8).trans hc)
                      have sh := fun w => shown_b s[k] true hc w
                      obtain ⟨v, hv⟩ : ∃ v, plnB s[k] = v := ⟨_, rfl⟩
                      have pl := fun w => plain_b s[k] v hv w
                      have HQ := Lib.hid (show (s.data.toList.take (k + 1)).all plnB = ((s.data.toList.take k).all plnB && v) by rw [byte_take s k hlk, List.all_append]; simp [hv])
                      clear hb8 hc hv
                      cases hp2 : (s.data.toList.take k).all plnB
                      · rw [hp2] at HQ
                        clear hp2 pl
                        go_wp2_with (fail)
                        refine (sh _).mono ?_
                        rintro e w' ⟨rfl, rfl⟩
                        go_wp2
                        go_round
                        case rel => exact ⟨k + 1, by omega, by go_num, by rw [HQ.out]; rfl, HA2.out⟩
                        case measure => simp [intOf]; omega
                      · rw [hp2] at HQ
                        clear hp2
                        go_wp2_with (fail)
                        refine (sh _).mono ?_
                        rintro e w' ⟨rfl, rfl⟩
                        go_wp2_with (fail)
                        refine (pl _).mono ?_
                        rintro e w' ⟨rfl, rfl⟩
                        go_wp2
                        go_round
                        case rel => exact ⟨k + 1, by omega, by go_num, by rw [HQ.out]; rfl, HA2.out⟩
                        case measure => simp [intOf]; omega
                  · obtain rfl : k = s.size := by omega
                    clear hlk hk hb8
                    rw [take_all]
                    rw [HP.out]
                    go_wp2
                    go_ret
                    exact ⟨rfl, B2⟩
              · rw [if_neg h5] at hg
                have HG2 := Lib.hid hg
                clear hg
                go_wp2
                go_loop [8, 46] (fun b i => ∃ k : Nat, k ≤ s.size ∧ i = .int .i64 k ∧ b = .bool (true && (s.data.toList.take k).all plnB) ∧ (s.data.toList.take k).all shwB = true) (fun _ i => s.size - (intOf i).toNat)
                case atStart => exact ⟨0, Nat.zero_le _, rfl, by simp, by simp⟩
                case round =>
                  obtain ⟨k, hk, rfl, rfl, hb8⟩ := hrel
                  by_cases hlk : k < s.size
                  · cases hc : shwB s[k]
                    · exact absurd (HALL.out.symm.trans (all_bad hlk hc)) (by simp)
                    · have HA2 := Lib.hid ((all_take hlk hb8).trans hc)
                      have sh := fun w => shown_b s[k] true hc w
                      obtain ⟨v, hv⟩ : ∃ v, plnB s[k] = v := ⟨_, rfl⟩
                      have pl := fun w => plain_b s[k] v hv w
                      have HQ := Lib.hid (show (s.data.toList.take (k + 1)).all plnB = ((s.data.toList.take k).all plnB && v) by rw [byte_take s k hlk, List.all_append]; simp [hv])
                      clear hb8 hc hv
                      cases hp2 : (s.data.toList.take k).all plnB
                      · rw [hp2] at HQ
                        clear hp2 pl
                        go_wp2_with (fail)
                        refine (sh _).mono ?_
                        rintro e w' ⟨rfl, rfl⟩
                        go_wp2
                        go_round
                        case rel => exact ⟨k + 1, by omega, by go_num, by rw [HQ.out]; rfl, HA2.out⟩
                        case measure => simp [intOf]; omega
                      · rw [hp2] at HQ
                        clear hp2
                        go_wp2_with (fail)
                        refine (sh _).mono ?_
                        rintro e w' ⟨rfl, rfl⟩
                        go_wp2_with (fail)
                        refine (pl _).mono ?_
                        rintro e w' ⟨rfl, rfl⟩
                        go_wp2
                        go_round
                        case rel => exact ⟨k + 1, by omega, by go_num, by rw [HQ.out]; rfl, HA2.out⟩
                        case measure => simp [intOf]; omega
                  · obtain rfl : k = s.size := by omega
                    clear hlk hk hb8
                    rw [take_all]
                    rw [HP.out]
                    go_wp2
                    go_round
                    case rel => exact ⟨M, j + 1, by omega, by go_num, congrArg (Value.int .i64) (by omega), by omega, by rw [show decide (j + 1 = 0) = false from rfl]; exact HG2.out⟩
                    case measure => simp [intOf]; omega
            · have hd : decide (j = 0) = false := decide_eq_false hj0
              simp only [hd, Bool.false_eq_true, if_false, List.length_nil, List.length_cons] at hMl
              have p1 : (j : Int) ≥ 1 := by omega
              have p2 : ¬ (j : Int) < 1 := by omega
              have p3 : (1 : Int) ≤ (j : Int) := by omega
              clear hd hj0
              by_cases h5 : 512 < M.length
              · rw [if_pos h5, Prod.mk.injEq] at hg
                obtain ⟨rfl, rfl⟩ := hg
                have teT := HTZ.out rfl
                go_wp2
                go_loop [8, 46] (fun b i => ∃ k : Nat, k ≤ s.size ∧ i = .int .i64 k ∧ b = .bool (true && (s.data.toList.take k).all plnB) ∧ (s.data.toList.take k).all shwB = true) (fun _ i => s.size - (intOf i).toNat)
                case atStart => exact ⟨0, Nat.zero_le _, rfl, by simp, by simp⟩
                case round =>
                  obtain ⟨k, hk, rfl, rfl, hb8⟩ := hrel
                  by_cases hlk : k < s.size
                  · cases hc : shwB s[k]
                    · exact absurd (HALL.out.symm.trans (all_bad hlk hc)) (by simp)
                    · have HA2 := Lib.hid ((all_take hlk hb8).trans hc)
                      have sh := fun w => shown_b s[k] true hc w
                      obtain ⟨v, hv⟩ : ∃ v, plnB s[k] = v := ⟨_, rfl⟩
                      have pl := fun w => plain_b s[k] v hv w
                      have HQ := Lib.hid (show (s.data.toList.take (k + 1)).all plnB = ((s.data.toList.take k).all plnB && v) by rw [byte_take s k hlk, List.all_append]; simp [hv])
                      clear hb8 hc hv
                      cases hp2 : (s.data.toList.take k).all plnB
                      · rw [hp2] at HQ
                        clear hp2 pl
                        go_wp2_with (fail)
                        refine (sh _).mono ?_
                        rintro e w' ⟨rfl, rfl⟩
                        go_wp2
                        go_round
                        case rel => exact ⟨k + 1, by omega, by go_num, by rw [HQ.out]; rfl, HA2.out⟩
                        case measure => simp [intOf]; omega
                      · rw [hp2] at HQ
                        clear hp2
                        go_wp2_with (fail)
                        refine (sh _).mono ?_
                        rintro e w' ⟨rfl, rfl⟩
                        go_wp2_with (fail)
                        refine (pl _).mono ?_
                        rintro e w' ⟨rfl, rfl⟩
                        go_wp2
                        go_round
                        case rel => exact ⟨k + 1, by omega, by go_num, by rw [HQ.out]; rfl, HA2.out⟩
                        case measure => simp [intOf]; omega
                  · obtain rfl : k = s.size := by omega
                    clear hlk hk hb8
                    rw [take_all]
                    rw [HP.out]
                    go_wp2
                    go_ret
                    exact ⟨rfl, B2⟩
              · rw [if_neg h5] at hg
                have HG2 := Lib.hid hg
                clear hg
                go_wp2
                go_loop [8, 46] (fun b i => ∃ k : Nat, k ≤ s.size ∧ i = .int .i64 k ∧ b = .bool (true && (s.data.toList.take k).all plnB) ∧ (s.data.toList.take k).all shwB = true) (fun _ i => s.size - (intOf i).toNat)
                case atStart => exact ⟨0, Nat.zero_le _, rfl, by simp, by simp⟩
                case round =>
                  obtain ⟨k, hk, rfl, rfl, hb8⟩ := hrel
                  by_cases hlk : k < s.size
                  · cases hc : shwB s[k]
                    · exact absurd (HALL.out.symm.trans (all_bad hlk hc)) (by simp)
                    · have HA2 := Lib.hid ((all_take hlk hb8).trans hc)
                      have sh := fun w => shown_b s[k] true hc w
                      obtain ⟨v, hv⟩ : ∃ v, plnB s[k] = v := ⟨_, rfl⟩
                      have pl := fun w => plain_b s[k] v hv w
                      have HQ := Lib.hid (show (s.data.toList.take (k + 1)).all plnB = ((s.data.toList.take k).all plnB && v) by rw [byte_take s k hlk, List.all_append]; simp [hv])
                      clear hb8 hc hv
                      cases hp2 : (s.data.toList.take k).all plnB
                      · rw [hp2] at HQ
                        clear hp2 pl
                        go_wp2_with (fail)
                        refine (sh _).mono ?_
                        rintro e w' ⟨rfl, rfl⟩
                        go_wp2
                        go_round
                        case rel => exact ⟨k + 1, by omega, by go_num, by rw [HQ.out]; rfl, HA2.out⟩
                        case measure => simp [intOf]; omega
                      · rw [hp2] at HQ
                        clear hp2
                        go_wp2_with (fail)
                        refine (sh _).mono ?_
                        rintro e w' ⟨rfl, rfl⟩
                        go_wp2_with (fail)
                        refine (pl _).mono ?_
                        rintro e w' ⟨rfl, rfl⟩
                        go_wp2
                        go_round
                        case rel => exact ⟨k + 1, by omega, by go_num, by rw [HQ.out]; rfl, HA2.out⟩
                        case measure => simp [intOf]; omega
                  · obtain rfl : k = s.size := by omega
                    clear hlk hk hb8
                    rw [take_all]
                    rw [HP.out]
                    go_wp2
                    go_round
                    case rel => exact ⟨M, j + 1, by omega, by go_num, congrArg (Value.int .i64) (by omega), by omega, by rw [show decide (j + 1 = 0) = false from rfl]; exact HG2.out⟩
                    case measure => simp [intOf]; omega
          · have hnb : needB s.data.toList = false := by unfold needB; rw [hp, hie]; rfl
            have HP := Lib.hid hp
            rw [hnb, data_len] at hm
            simp only [Bool.false_eq_true, if_false] at hm
            clear hp ha hnb hie
            obtain ⟨M, hM⟩ : ∃ M, line ++ (if decide (j = 0) = true then [] else [32]) ++ quoV s.data.toList = M := ⟨_, rfl⟩
            rw [hM] at hg
            have hMl := congrArg List.length hM
            rw [List.length_append, List.length_append, hm] at hMl
            clear hM hm
            by_cases hj0 : j = 0
            · have hd : decide (j = 0) = true := decide_eq_true hj0
              simp only [hd, if_true, List.length_nil, List.length_cons] at hMl
              have p1 : (j : Int) ≤ 0 := by omega
              have p2 : (j : Int) < 1 := by omega
              clear hd hj0
              by_cases h5 : 512 < M.length
              · rw [if_pos h5, Prod.mk.injEq] at hg
                obtain ⟨rfl, rfl⟩ := hg
                have teT := HTZ.out rfl
                go_wp2
                go_loop [8, 46] (fun b i => ∃ k : Nat, k ≤ s.size ∧ i = .int .i64 k ∧ b = .bool (true && (s.data.toList.take k).all plnB) ∧ (s.data.toList.take k).all shwB = true) (fun _ i => s.size - (intOf i).toNat)
                case atStart => exact ⟨0, Nat.zero_le _, rfl, by simp, by simp⟩
                case round =>
                  obtain ⟨k, hk, rfl, rfl, hb8⟩ := hrel
                  by_cases hlk : k < s.size
                  · cases hc : shwB s[k]
                    · exact absurd (HALL.out.symm.trans (all_bad hlk hc)) (by simp)
                    · have HA2 := Lib.hid ((all_take hlk hb8).trans hc)
                      have sh := fun w => shown_b s[k] true hc w
                      obtain ⟨v, hv⟩ : ∃ v, plnB s[k] = v := ⟨_, rfl⟩
                      have pl := fun w => plain_b s[k] v hv w
                      have HQ := Lib.hid (show (s.data.toList.take (k + 1)).all plnB = ((s.data.toList.take k).all plnB && v) by rw [byte_take s k hlk, List.all_append]; simp [hv])
                      clear hb8 hc hv
                      cases hp2 : (s.data.toList.take k).all plnB
                      · rw [hp2] at HQ
                        clear hp2 pl
                        go_wp2_with (fail)
                        refine (sh _).mono ?_
                        rintro e w' ⟨rfl, rfl⟩
                        go_wp2
                        go_round
                        case rel => exact ⟨k + 1, by omega, by go_num, by rw [HQ.out]; rfl, HA2.out⟩
                        case measure => simp [intOf]; omega
                      · rw [hp2] at HQ
                        clear hp2
                        go_wp2_with (fail)
                        refine (sh _).mono ?_
                        rintro e w' ⟨rfl, rfl⟩
                        go_wp2_with (fail)
                        refine (pl _).mono ?_
                        rintro e w' ⟨rfl, rfl⟩
                        go_wp2
                        go_round
                        case rel => exact ⟨k + 1, by omega, by go_num, by rw [HQ.out]; rfl, HA2.out⟩
                        case measure => simp [intOf]; omega
                  · obtain rfl : k = s.size := by omega
                    clear hlk hk hb8
                    rw [take_all]
                    rw [HP.out]
                    go_wp2
                    go_ret
                    exact ⟨rfl, B2⟩
              · rw [if_neg h5] at hg
                have HG2 := Lib.hid hg
                clear hg
                go_wp2
                go_loop [8, 46] (fun b i => ∃ k : Nat, k ≤ s.size ∧ i = .int .i64 k ∧ b = .bool (true && (s.data.toList.take k).all plnB) ∧ (s.data.toList.take k).all shwB = true) (fun _ i => s.size - (intOf i).toNat)
                case atStart => exact ⟨0, Nat.zero_le _, rfl, by simp, by simp⟩
                case round =>
                  obtain ⟨k, hk, rfl, rfl, hb8⟩ := hrel
                  by_cases hlk : k < s.size
                  · cases hc : shwB s[k]
                    · exact absurd (HALL.out.symm.trans (all_bad hlk hc)) (by simp)
                    · have HA2 := Lib.hid ((all_take hlk hb8).trans hc)
                      have sh := fun w => shown_b s[k] true hc w
                      obtain ⟨v, hv⟩ : ∃ v, plnB s[k] = v := ⟨_, rfl⟩
                      have pl := fun w => plain_b s[k] v hv w
                      have HQ := Lib.hid (show (s.data.toList.take (k + 1)).all plnB = ((s.data.toList.take k).all plnB && v) by rw [byte_take s k hlk, List.all_append]; simp [hv])
                      clear hb8 hc hv
                      cases hp2 : (s.data.toList.take k).all plnB
                      · rw [hp2] at HQ
                        clear hp2 pl
                        go_wp2_with (fail)
                        refine (sh _).mono ?_
                        rintro e w' ⟨rfl, rfl⟩
                        go_wp2
                        go_round
                        case rel => exact ⟨k + 1, by omega, by go_num, by rw [HQ.out]; rfl, HA2.out⟩
                        case measure => simp [intOf]; omega
                      · rw [hp2] at HQ
                        clear hp2
                        go_wp2_with (fail)
                        refine (sh _).mono ?_
                        rintro e w' ⟨rfl, rfl⟩
                        go_wp2_with (fail)
                        refine (pl _).mono ?_
                        rintro e w' ⟨rfl, rfl⟩
                        go_wp2
                        go_round
                        case rel => exact ⟨k + 1, by omega, by go_num, by rw [HQ.out]; rfl, HA2.out⟩
                        case measure => simp [intOf]; omega
                  · obtain rfl : k = s.size := by omega
                    clear hlk hk hb8
                    rw [take_all]
                    rw [HP.out]
                    go_wp2
                    go_round
                    case rel => exact ⟨M, j + 1, by omega, by go_num, congrArg (Value.int .i64) (by omega), by omega, by rw [show decide (j + 1 = 0) = false from rfl]; exact HG2.out⟩
                    case measure => simp [intOf]; omega
            · have hd : decide (j = 0) = false := decide_eq_false hj0
              simp only [hd, Bool.false_eq_true, if_false, List.length_nil, List.length_cons] at hMl
              have p1 : (j : Int) ≥ 1 := by omega
              have p2 : ¬ (j : Int) < 1 := by omega
              have p3 : (1 : Int) ≤ (j : Int) := by omega
              clear hd hj0
              by_cases h5 : 512 < M.length
              · rw [if_pos h5, Prod.mk.injEq] at hg
                obtain ⟨rfl, rfl⟩ := hg
                have teT := HTZ.out rfl
                go_wp2
                go_loop [8, 46] (fun b i => ∃ k : Nat, k ≤ s.size ∧ i = .int .i64 k ∧ b = .bool (true && (s.data.toList.take k).all plnB) ∧ (s.data.toList.take k).all shwB = true) (fun _ i => s.size - (intOf i).toNat)
                case atStart => exact ⟨0, Nat.zero_le _, rfl, by simp, by simp⟩
                case round =>
                  obtain ⟨k, hk, rfl, rfl, hb8⟩ := hrel
                  by_cases hlk : k < s.size
                  · cases hc : shwB s[k]
                    · exact absurd (HALL.out.symm.trans (all_bad hlk hc)) (by simp)
                    · have HA2 := Lib.hid ((all_take hlk hb8).trans hc)
                      have sh := fun w => shown_b s[k] true hc w
                      obtain ⟨v, hv⟩ : ∃ v, plnB s[k] = v := ⟨_, rfl⟩
                      have pl := fun w => plain_b s[k] v hv w
                      have HQ := Lib.hid (show (s.data.toList.take (k + 1)).all plnB = ((s.data.toList.take k).all plnB && v) by rw [byte_take s k hlk, List.all_append]; simp [hv])
                      clear hb8 hc hv
                      cases hp2 : (s.data.toList.take k).all plnB
                      · rw [hp2] at HQ
                        clear hp2 pl
                        go_wp2_with (fail)
                        refine (sh _).mono ?_
                        rintro e w' ⟨rfl, rfl⟩
                        go_wp2
                        go_round
                        case rel => exact ⟨k + 1, by omega, by go_num, by rw [HQ.out]; rfl, HA2.out⟩
                        case measure => simp [intOf]; omega
                      · rw [hp2] at HQ
                        clear hp2
                        go_wp2_with (fail)
                        refine (sh _).mono ?_
                        rintro e w' ⟨rfl, rfl⟩
                        go_wp2_with (fail)
                        refine (pl _).mono ?_
                        rintro e w' ⟨rfl, rfl⟩
                        go_wp2
                        go_round
                        case rel => exact ⟨k + 1, by omega, by go_num, by rw [HQ.out]; rfl, HA2.out⟩
                        case measure => simp [intOf]; omega
                  · obtain rfl : k = s.size := by omega
                    clear hlk hk hb8
                    rw [take_all]
                    rw [HP.out]
                    go_wp2
                    go_ret
                    exact ⟨rfl, B2⟩
              · rw [if_neg h5] at hg
                have HG2 := Lib.hid hg
                clear hg
                go_wp2
                go_loop [8, 46] (fun b i => ∃ k : Nat, k ≤ s.size ∧ i = .int .i64 k ∧ b = .bool (true && (s.data.toList.take k).all plnB) ∧ (s.data.toList.take k).all shwB = true) (fun _ i => s.size - (intOf i).toNat)
                case atStart => exact ⟨0, Nat.zero_le _, rfl, by simp, by simp⟩
                case round =>
                  obtain ⟨k, hk, rfl, rfl, hb8⟩ := hrel
                  by_cases hlk : k < s.size
                  · cases hc : shwB s[k]
                    · exact absurd (HALL.out.symm.trans (all_bad hlk hc)) (by simp)
                    · have HA2 := Lib.hid ((all_take hlk hb8).trans hc)
                      have sh := fun w => shown_b s[k] true hc w
                      obtain ⟨v, hv⟩ : ∃ v, plnB s[k] = v := ⟨_, rfl⟩
                      have pl := fun w => plain_b s[k] v hv w
                      have HQ := Lib.hid (show (s.data.toList.take (k + 1)).all plnB = ((s.data.toList.take k).all plnB && v) by rw [byte_take s k hlk, List.all_append]; simp [hv])
                      clear hb8 hc hv
                      cases hp2 : (s.data.toList.take k).all plnB
                      · rw [hp2] at HQ
                        clear hp2 pl
                        go_wp2_with (fail)
                        refine (sh _).mono ?_
                        rintro e w' ⟨rfl, rfl⟩
                        go_wp2
                        go_round
                        case rel => exact ⟨k + 1, by omega, by go_num, by rw [HQ.out]; rfl, HA2.out⟩
                        case measure => simp [intOf]; omega
                      · rw [hp2] at HQ
                        clear hp2
                        go_wp2_with (fail)
                        refine (sh _).mono ?_
                        rintro e w' ⟨rfl, rfl⟩
                        go_wp2_with (fail)
                        refine (pl _).mono ?_
                        rintro e w' ⟨rfl, rfl⟩
                        go_wp2
                        go_round
                        case rel => exact ⟨k + 1, by omega, by go_num, by rw [HQ.out]; rfl, HA2.out⟩
                        case measure => simp [intOf]; omega
                  · obtain rfl : k = s.size := by omega
                    clear hlk hk hb8
                    rw [take_all]
                    rw [HP.out]
                    go_wp2
                    go_round
                    case rel => exact ⟨M, j + 1, by omega, by go_num, congrArg (Value.int .i64) (by omega), by omega, by rw [show decide (j + 1 = 0) = false from rfl]; exact HG2.out⟩
                    case measure => simp [intOf]; omega
    · obtain rfl : j = n := by omega
      have hg := HG.out
      rw [show (wds f j).drop j = [] from List.drop_of_length_le (by rw [HL.out]; exact Nat.le_refl _)] at hg
      simp only [joiG, Prod.mk.injEq] at hg
      obtain ⟨rfl, rfl⟩ := hg
      have hcv : cutV T.data.toList = (wds f j, 0) := by rw [HT.out]; exact cut_joi HJ.out
      have HCV := Lib.hid hcv
      have hTs : T.size ≤ 512 := by rw [HTL.out]; exact hll
      have cu := fun w => cut_any T w (by omega)
      have x1 : ((T.size : Int) != (line.length : Int)) = false := by rw [HTL.out]; simp
      clear hcv HG
      go_wp2_with (fail)
      refine (cu _).mono ?_
      rintro e w3 ⟨v, rfl, hr, hb⟩
      have B3 := below_step B2 hb B2.size
      rw [HCV.out] at hr ⊢
      obtain ⟨A2, cc, rfl, hrow⟩ := rs_row hr
      rw [HL.out] at hrow ⊢
      have HRW := Lib.hid hrow
      have x2 : ((j : Int) != (j : Int)) = false := by simp
      clear hr hrow hb B2 cu hlt
      go_wp2
      go_loopw [114] (fun i wr => ∃ k : Nat, k ≤ j ∧ i = .int .i64 k ∧ Below w3.heap.size w3 wr) (fun i _ => j - (intOf i).toNat)
      case atStart => exact ⟨0, Nat.zero_le _, rfl, Below.refl _ _⟩
      case round =>
        obtain ⟨k, hk, rfl, hbr⟩ := hrel
        by_cases hlt : k < j
        · obtain ⟨b, o, rfl, hcell⟩ := HR.out (by omega)
          obtain ⟨b2, rfl, _, hcell2⟩ := HRW.out k hlt
          have cA : wr.cell? ⟨b, o + k, none⟩ = some (.string (f k)) := cell_later hbr (cell_later B3 (hcell k hlt))
          have cB : wr.cell? ⟨b2, k, none⟩ = some (.string (f k)) := cell_later hbr (by rw [hcell2, HA.out k hlt]; show some (Value.string ⟨(f k).data.toList.toArray⟩) = _; rw [data_self])
          have r0 := fun d os => cell_regrown cA d os
          have r1 := fun d os => cell_regrown cB d os
          clear hcell hcell2 cA cB
          generalize f k = s at *
          have kb : (k : Int) < (j : Int) := by omega
          go_wp2_with (fail)
          refine wp_region_quiet_below mixedAll (by kernel_rfl) ?_
          repeat (go_big_quiet_step (fail))
          refine wpQuiet_nil ?_
          intro _ hw'
          obtain ⟨⟨dq, osq⟩, hw''⟩ := hw'
          subst hw''
          have hbr2 := hbr.trans ((below_regrown wr dq osq).mono hbr.size)
          clear r0 r1 hbr
          generalize grow (redrawn wr dq) osq = W5 at *
          go_wp2
          go_roundw
          case rel => exact ⟨k + 1, by omega, by go_num, hbr2⟩
          case measure => simp [intOf]; omega
        · obtain rfl : k = j := by omega
          have B5 := below_step B3 hbr B3.size
          clear HRW
          go_wp2
          go_ret
          exact ⟨rfl, B5⟩
end Go.Proofs.YthndkplmhpbgdaaDoor
