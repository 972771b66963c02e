/- What the calls of code answer that read: numbered, scheme, kindOf. -/
import Derived.Test.YtoppipjbdakmeaaDoorCodT
import Derived.Test.YtoppipjbdakmeaaDoorCodB
import Derived.Test.YtoppipjbdakmeaaDoorShelf
import Derived.LoopTactic
namespace Go.Proofs.YtoppipjbdakmeaaDoor
open Go.RowKit
set_option linter.unusedVariables false
set_option linter.unusedSimpArgs false

def NumP (k : Int) (l : List UInt8) (w : World) (e : Ending) (w' : World) : Prop := e = .returned (.tuple #[.int .i64 (numV k l).1, .int .i64 (numV k l).2.1, .bool (numV k l).2.2]) ∧ w = w'
theorem numP_no {k : Int} {l : List UInt8} {w : World} (h : numB l = false) : NumP k l w (.returned (.tuple #[.int .i64 0, .int .i64 0, .bool false])) w := by
  have : numV k l = (0, 0, false) := by unfold numV; rw [if_neg (by simp [h])]
  exact ⟨by rw [this], rfl⟩
theorem numP_yes {k : Int} {l : List UInt8} {w : World} {n : Int} (h : numB l = true) (hn : n = numG 0 l) : NumP k l w (.returned (.tuple #[.int .i64 k, .int .i64 n, .bool true])) w := by
  have : numV k l = (k, numG 0 l, true) := by unfold numV; rw [if_pos h]
  exact ⟨by rw [this, hn], rfl⟩
theorem numB_of {s : ByteArray} (h0 : 0 < s.size) (h6 : s.size ≤ 6) (hz : s.size = 1 ∨ s[0].toNat ≠ 48) : numB s.data.toList = s.data.toList.all isDg := by
  have hl := data_len s
  have hh := head_of s h0
  have he : s.data.toList.isEmpty = false := by
    cases hd : s.data.toList with
    | nil => rw [hd] at hl; simp at hl; omega
    | cons a l => rfl
  unfold numB
  rw [hl, hh, he, decide_eq_true h6]
  rcases hz with hz | hz
  · rw [hz]; simp
  · have : ¬ s[0] = 48 := fun e => hz (by rw [e]; rfl)
    have : (some s[0] == some 48) = false := by simpa using this
    rw [this]; simp
theorem numB_long {s : ByteArray} (h6 : 6 < s.size) : numB s.data.toList = false := by
  have hl := data_len s
  unfold numB
  rw [hl, decide_eq_false (by omega)]
  simp
theorem numB_empty {s : ByteArray} (h : s.size = 0) : numB s.data.toList = false := by
  have hl := data_len s
  have : s.data.toList = [] := List.length_eq_zero_iff.1 (by omega)
  rw [this]
  rfl
theorem numB_zero {s : ByteArray} (h1 : 1 < s.size) (hz : s[0].toNat = 48) : numB s.data.toList = false := by
  have hl := data_len s
  have hh := head_of s (by omega)
  have e : s[0] = 48 := UInt8.toNat_inj.1 hz
  unfold numB
  rw [hl, hh, e, decide_eq_true h1]
  simp
set_option maxHeartbeats 1000000 in
theorem digits_loop (k : Int) (s : ByteArray) (w : World) (h0 : 0 < s.size) (h6 : s.size ≤ 6) (hz : s.size = 1 ∨ s[0].toNat ≠ 48) :
    Calls Tryd.prog 72 #[.int .i64 k, .string s] w (NumP k s.data.toList w) := by
  have HB := Lib.hid (numB_of h0 h6 hz)
  have te := toList_some s h0
  have g6 : ¬ (6 : Int) < s.size := by omega
  have g0 : (0 : Int) < s.size := by omega
  rcases (show s.size = 1 ∨ (1 < s.size ∧ s[0].toNat ≠ 48) by omega) with hq | ⟨hq, hz2⟩
  · have g1 : ¬ (1 : Int) < s.size := by omega
    have HZ := Lib.hid hq
    clear hz hq
    go_enter Tryd.func72, Tryd.ntmps72
    go_wp2
    go_loop [7, 28] (fun n i => ∃ j : Nat, j ≤ s.size ∧ i = .int .i64 j ∧ n = .int .i64 (numG 0 (s.data.toList.take j)) ∧ (s.data.toList.take j).all isDg = true) (fun _ i => s.size - (intOf i).toNat)
    case atStart => exact ⟨0, Nat.zero_le _, rfl, by simp [numG], by simp⟩
    case round =>
      obtain ⟨j, hj, rfl, rfl, ha⟩ := hrel
      have hn := num_six ha (by rw [List.length_take]; omega)
      by_cases hlt : j < s.size
      · have hN : numG 0 (s.data.toList.take (j + 1)) = numG 0 (s.data.toList.take j) * 10 + ((s[j].toNat : Int) - 48) := by rw [byte_take s j hlt, numG_append]; rfl
        have HN := Lib.hid hN
        have hta := all_take hlt ha
        cases hc : isDg s[j]
        · have HF := Lib.hid (HB.out.trans (all_bad hlt hc))
          obtain hb := isDg_no hc
          clear ha hc hN hta
          generalize numG 0 (s.data.toList.take j) = N at *
          rcases hb with hb | hb
          · go_wp2
            go_ret3
            exact numP_no HF.out
          · have hb2 : ¬ (s[j].toNat : Int) < 48 := by omega
            go_wp2
            go_ret3
            exact numP_no HF.out
        · have HA := Lib.hid (hta.trans hc)
          obtain ⟨b1, b2⟩ := isDg_yes hc
          clear ha hc hN hta
          generalize numG 0 (s.data.toList.take j) = N at *
          go_wp2
          go_round
          case rel => exact ⟨j + 1, by omega, by go_num, by rw [HN.out], HA.out⟩
          case measure => simp [intOf]; omega
      · obtain rfl : j = s.size := by omega
        rw [take_all] at ha hn ⊢
        have HA := Lib.hid (HB.out.trans ha)
        obtain ⟨N, hN⟩ : ∃ N, N = numG 0 s.data.toList := ⟨_, rfl⟩
        rw [← hN] at hn ⊢
        have HN := Lib.hid hN
        clear ha hN
        go_wp2
        go_ret3
        exact numP_yes HA.out HN.out
  · have g1 : (1 : Int) < s.size := by omega
    have e1 : ((s[0].toNat : Int) == 48) = false := by rw [beq_eq_false_iff_ne]; omega
    clear hz hz2
    go_enter Tryd.func72, Tryd.ntmps72
    go_wp2
    go_loop [7, 28] (fun n i => ∃ j : Nat, j ≤ s.size ∧ i = .int .i64 j ∧ n = .int .i64 (numG 0 (s.data.toList.take j)) ∧ (s.data.toList.take j).all isDg = true) (fun _ i => s.size - (intOf i).toNat)
    case atStart => exact ⟨0, Nat.zero_le _, rfl, by simp [numG], by simp⟩
    case round =>
      obtain ⟨j, hj, rfl, rfl, ha⟩ := hrel
      have hn := num_six ha (by rw [List.length_take]; omega)
      by_cases hlt : j < s.size
      · have hN : numG 0 (s.data.toList.take (j + 1)) = numG 0 (s.data.toList.take j) * 10 + ((s[j].toNat : Int) - 48) := by rw [byte_take s j hlt, numG_append]; rfl
        have HN := Lib.hid hN
        have hta := all_take hlt ha
        cases hc : isDg s[j]
        · have HF := Lib.hid (HB.out.trans (all_bad hlt hc))
          obtain hb := isDg_no hc
          clear ha hc hN hta
          generalize numG 0 (s.data.toList.take j) = N at *
          rcases hb with hb | hb
          · go_wp2
            go_ret3
            exact numP_no HF.out
          · have hb2 : ¬ (s[j].toNat : Int) < 48 := by omega
            go_wp2
            go_ret3
            exact numP_no HF.out
        · have HA := Lib.hid (hta.trans hc)
          obtain ⟨b1, b2⟩ := isDg_yes hc
          clear ha hc hN hta
          generalize numG 0 (s.data.toList.take j) = N at *
          go_wp2
          go_round
          case rel => exact ⟨j + 1, by omega, by go_num, by rw [HN.out], HA.out⟩
          case measure => simp [intOf]; omega
      · obtain rfl : j = s.size := by omega
        rw [take_all] at ha hn ⊢
        have HA := Lib.hid (HB.out.trans ha)
        obtain ⟨N, hN⟩ : ∃ N, N = numG 0 s.data.toList := ⟨_, rfl⟩
        rw [← hN] at hn ⊢
        have HN := Lib.hid hN
        clear ha hN
        go_wp2
        go_ret3
        exact numP_yes HA.out HN.out
theorem numbered_any (k : Int) (s : ByteArray) (w : World) (hs : s.size ≤ 4611686018427387904) :
    Calls Tryd.prog 72 #[.int .i64 k, .string s] w (NumP k s.data.toList w) := by
  rcases Nat.eq_zero_or_pos s.size with h0 | h0
  · have HF := Lib.hid (numB_empty h0)
    have te := toList_none s h0
    clear h0
    go_enter Tryd.func72, Tryd.ntmps72
    go_wp2
    go_ret3
    exact numP_no HF.out
  rcases Nat.lt_or_ge 6 s.size with h6 | h6
  · have HF := Lib.hid (numB_long h6)
    have te := toList_some s h0
    have g6 : (6 : Int) < s.size := by omega
    go_enter Tryd.func72, Tryd.ntmps72
    go_wp2
    go_ret3
    exact numP_no HF.out
  by_cases hz : s.size = 1 ∨ s[0].toNat ≠ 48
  · exact digits_loop k s w h0 h6 hz
  · have h1 : 1 < s.size := by omega
    have h48 : s[0].toNat = 48 := by omega
    have HF := Lib.hid (numB_zero h1 h48)
    have te := toList_some s h0
    have g6 : ¬ (6 : Int) < s.size := by omega
    have g1 : (1 : Int) < s.size := by omega
    have g0 : (0 : Int) < s.size := by omega
    have e1 : ((s[0].toNat : Int) == 48) = true := by rw [beq_iff_eq]; omega
    clear hz h48
    go_enter Tryd.func72, Tryd.ntmps72
    go_wp2
    go_ret3
    exact numP_no HF.out

def SchP (l : List UInt8) (w : World) (e : Ending) (w' : World) : Prop := e = .returned (.tuple #[.int .i64 (schV l).1, .string ⟨(schV l).2.toArray⟩]) ∧ w = w'
theorem ix_no (c : UInt8) (h : ¬ (80 ≤ (c.toNat : Int) ∧ (c.toNat : Int) ≤ 86)) : Lib.indexByte [80, 81, 82, 83, 84, 85, 86] c = -1 := by
  have h2 : c ≠ 80 ∧ c ≠ 81 ∧ c ≠ 82 ∧ c ≠ 83 ∧ c ≠ 84 ∧ c ≠ 85 ∧ c ≠ 86 := by
    refine ⟨?_, ?_, ?_, ?_, ?_, ?_, ?_⟩ <;> (intro e; apply h; rw [e]; decide)
  obtain ⟨a0, a1, a2, a3, a4, a5, a6⟩ := h2
  simp [Lib.indexByte, Ne.symm a0, Ne.symm a1, Ne.symm a2, Ne.symm a3, Ne.symm a4, Ne.symm a5, Ne.symm a6]
theorem ix_yes (c : UInt8) (h : 80 ≤ (c.toNat : Int)) (h' : (c.toNat : Int) ≤ 86) : Lib.indexByte [80, 81, 82, 83, 84, 85, 86] c = (c.toNat : Int) - 80 := by
  have h2 : c = 80 ∨ c = 81 ∨ c = 82 ∨ c = 83 ∨ c = 84 ∨ c = 85 ∨ c = 86 := by
    have : ∀ n : UInt8, c.toNat = n.toNat → c = n := fun n e => UInt8.toNat_inj.1 e
    rcases (show c.toNat = 80 ∨ c.toNat = 81 ∨ c.toNat = 82 ∨ c.toNat = 83 ∨ c.toNat = 84 ∨ c.toNat = 85 ∨ c.toNat = 86 by omega) with q | q | q | q | q | q | q
    · exact .inl (this 80 q)
    · exact .inr (.inl (this 81 q))
    · exact .inr (.inr (.inl (this 82 q)))
    · exact .inr (.inr (.inr (.inl (this 83 q))))
    · exact .inr (.inr (.inr (.inr (.inl (this 84 q)))))
    · exact .inr (.inr (.inr (.inr (.inr (.inl (this 85 q))))))
    · exact .inr (.inr (.inr (.inr (.inr (.inr (this 86 q))))))
  rcases h2 with rfl | rfl | rfl | rfl | rfl | rfl | rfl <;> decide
theorem ext_tail (s : ByteArray) (h : 0 < s.size) : s.extract 1 s.size = ⟨s.data.toList.tail.toArray⟩ := by
  apply ByteArray.ext
  apply Array.ext'
  rw [ByteArray.data_extract]
  simp
  exact List.take_of_length_le (by simp)
theorem data_self (s : ByteArray) : (⟨s.data.toList.toArray⟩ : ByteArray) = s := by
  apply ByteArray.ext
  simp
theorem schP_mk {l : List UInt8} {w : World} {n : Int} {t : ByteArray} (h : schV l = (n, t.data.toList)) : SchP l w (.returned (.tuple #[.int .i64 n, .string t])) w := by
  refine ⟨?_, rfl⟩
  rw [h]
theorem scheme_any (s : ByteArray) (w : World) (hs : s.size ≤ 4611686018427387904) :
    Calls Tryd.prog 46 #[.string s] w (SchP s.data.toList w) := by
  rcases Nat.eq_zero_or_pos s.size with h0 | h0
  · have te := toList_none s h0
    have HE := Lib.hid (show schV s.data.toList = (0, s.data.toList) by rw [List.length_eq_zero_iff.1 (show s.data.toList.length = 0 by simp [h0])]; rfl)
    obtain rfl : s = ⟨#[]⟩ := by rw [← data_self s, List.length_eq_zero_iff.1 (show s.data.toList.length = 0 by simp [h0])]
    clear h0 te
    go_enter Tryd.func46, Tryd.ntmps46
    go_wp2
    go_ret2
    exact schP_mk HE.out
  · have te := toList_some s h0
    have hc := cons_of s h0
    have hx := ext_tail s h0
    have ib := fun w => Tryd.strings_IndexByte ⟨#[80, 81, 82, 83, 84, 85, 86]⟩ (s[0].toNat : Int) w
    rw [show ((s[0].toNat : Int).toNat.toUInt8) = s[0] by simp] at ib
    have g0 : (0 : Int) < s.size := by omega
    have g1 : (1 : Int) ≤ s.size := by omega
    by_cases hq : (80 : Int) ≤ (s[0].toNat : Int) ∧ (s[0].toNat : Int) ≤ (86 : Int)
    · have hi := ix_yes s[0] hq.1 hq.2
      rw [show (⟨#[80, 81, 82, 83, 84, 85, 86]⟩ : ByteArray).data.toList = [80, 81, 82, 83, 84, 85, 86] from rfl, hi] at ib
      have HE := Lib.hid (show schV s.data.toList = ((s[0].toNat : Int) - 80 + 1, (s.extract 1 s.size).data.toList) by
        rw [hx, hc]
        unfold schV
        simp only
        rw [if_pos hq]
        have : (s[0].toNat : Int) - (79 : Int) = (s[0].toNat : Int) - 80 + 1 := by omega
        rw [this]
        simp)
      obtain ⟨q1, q2⟩ := hq
      clear hc hx hi
      go_enter Tryd.func46, Tryd.ntmps46
      go_wp2_with (fail)
      refine (ib _).mono ?_
      rintro e w' ⟨rfl, rfl⟩
      go_wp2
      go_ret2
      exact schP_mk HE.out
    · have hi := ix_no s[0] hq
      rw [show (⟨#[80, 81, 82, 83, 84, 85, 86]⟩ : ByteArray).data.toList = [80, 81, 82, 83, 84, 85, 86] from rfl, hi] at ib
      have HE := Lib.hid (show schV s.data.toList = (0, s.data.toList) by
        conv => lhs; rw [hc]
        unfold schV
        simp only
        rw [if_neg hq, ← hc])
      clear hc hx hi hq
      go_enter Tryd.func46, Tryd.ntmps46
      go_wp2_with (fail)
      refine (ib _).mono ?_
      rintro e w' ⟨rfl, rfl⟩
      go_wp2
      go_ret2
      exact schP_mk HE.out
end Go.Proofs.YtoppipjbdakmeaaDoor
