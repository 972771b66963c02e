/- What the calls of word answer: Quote; the document's Plain and Shown. -/
import Derived.Test.YthndkplmhpbgdaaDoorWrdA
namespace Go.Proofs.YthndkplmhpbgdaaDoor
open Go.RowKit
set_option linter.unusedVariables false
set_option linter.unusedSimpArgs false

theorem plain_b (b : UInt8) (v : Bool) (h : plnB b = v) (w : World) : Calls Tryd.prog 17 #[.int .u8 (b.toNat : Int)] w fun e w' => e = .returned (.bool v) ∧ w = w' := by
  obtain ⟨u0, u9⟩ := u8_bd b
  have he : plnB b = decide (33 ≤ (b.toNat : Int) ∧ (b.toNat : Int) ≤ 126 ∧ (b.toNat : Int) ≠ 34 ∧ (b.toNat : Int) ≠ 35) := rfl
  rw [he] at h
  subst h
  clear he
  generalize (b.toNat : Int) = c at *
  by_cases h1 : 33 ≤ c
  · by_cases h2 : c ≤ 126
    · by_cases h3 : c = 34
      · rw [decide_eq_false (by omega)]
        have t : (c != 34) = false := by simpa using h3
        clear h3
        go_enter Tryd.func17, Tryd.ntmps17
        go_wp2
        go_ret
        exact ⟨rfl, rfl⟩
      · have t : (c != 34) = true := by simpa using h3
        by_cases h4 : c = 35
        · rw [decide_eq_false (by omega)]
          have t2 : (c != 35) = false := by simpa using h4
          clear h3 h4
          go_enter Tryd.func17, Tryd.ntmps17
          go_wp2
          go_ret
          exact ⟨rfl, rfl⟩
        · rw [decide_eq_true (by omega)]
          have t2 : (c != 35) = true := by simpa using h4
          clear h3 h4
          go_enter Tryd.func17, Tryd.ntmps17
          go_wp2
          go_ret
          exact ⟨rfl, rfl⟩
    · rw [decide_eq_false (by omega)]
      go_enter Tryd.func17, Tryd.ntmps17
      go_wp2
      go_ret
      exact ⟨rfl, rfl⟩
  · rw [decide_eq_false (by omega)]
    go_enter Tryd.func17, Tryd.ntmps17
    go_wp2
    go_ret
    exact ⟨rfl, rfl⟩
theorem shown_b (b : UInt8) (v : Bool) (h : shwB b = v) (w : World) : Calls Tryd.prog 16 #[.int .u8 (b.toNat : Int)] w fun e w' => e = .returned (.bool v) ∧ w = w' := by
  obtain ⟨u0, u9⟩ := u8_bd b
  by_cases h1 : (b.toNat : Int) = 32
  · have t : ((b.toNat : Int) == 32) = true := by simpa using h1
    obtain rfl : v = true := by rw [← h]; simp only [shwB, decide_eq_true_eq]; omega
    clear h1 h
    generalize (b.toNat : Int) = c at *
    go_enter Tryd.func16, Tryd.ntmps16
    go_wp2
    go_ret
    exact ⟨rfl, rfl⟩
  have t : ((b.toNat : Int) == 32) = false := by simpa using h1
  by_cases h2 : (b.toNat : Int) = 35
  · have t2 : ((b.toNat : Int) == 35) = true := by simpa using h2
    obtain rfl : v = true := by rw [← h]; simp only [shwB, decide_eq_true_eq]; omega
    clear h1 h2 h
    generalize (b.toNat : Int) = c at *
    go_enter Tryd.func16, Tryd.ntmps16
    go_wp2
    go_ret
    exact ⟨rfl, rfl⟩
  have t2 : ((b.toNat : Int) == 35) = false := by simpa using h2
  have hp : plnB b = v := by
    rw [← h, Bool.eq_iff_iff]
    simp only [shwB, plnB, decide_eq_true_eq]
    omega
  have pl := fun w => plain_b b v hp w
  clear h1 h2 h hp
  generalize (b.toNat : Int) = c at *
  go_enter Tryd.func16, Tryd.ntmps16
  go_wp2_with (fail)
  refine (pl _).mono ?_
  rintro e w' ⟨rfl, rfl⟩
  go_wp2
  go_ret
  exact ⟨rfl, rfl⟩
/-- what Quote answers -/
def QuP (l : List UInt8) (w : World) (e : Ending) (w' : World) : Prop := e = .returned (.tuple #[.string ⟨(quoV l).toArray⟩, .int .i64 (quoE l)]) ∧ Below w.heap.size w w'
theorem quP_bad {l : List UInt8} {w w' : World} (h : l.all shwB = false) (hb : Below w.heap.size w w') : QuP l w (.returned (.tuple #[.string ⟨#[]⟩, .int .i64 5])) w' := by
  refine ⟨?_, hb⟩
  unfold quoV quoE
  rw [if_neg (by simp [h]), if_neg (by simp [h])]
theorem quP_need {l : List UInt8} {w w' : World} {s : ByteArray} (h : l.all shwB = true) (hn : needB l = true) (hs : s.data.toList = l) (hb : Below w.heap.size w w') : QuP l w (.returned (.tuple #[.string (⟨#[34]⟩ ++ s ++ ⟨#[34]⟩), .int .i64 0])) w' := by
  refine ⟨?_, hb⟩
  unfold quoV quoE
  rw [if_pos h, if_pos h, if_pos hn]
  have : (⟨#[34]⟩ ++ s ++ ⟨#[34]⟩ : ByteArray) = ⟨(34 :: (l ++ [34])).toArray⟩ := by
    apply ByteArray.ext
    subst hs
    apply Array.ext'
    simp [ByteArray.data_append]
  rw [this]
theorem quP_plain {l : List UInt8} {w w' : World} {s : ByteArray} (h : l.all shwB = true) (hn : needB l = false) (hs : s.data.toList = l) (hb : Below w.heap.size w w') : QuP l w (.returned (.tuple #[.string s, .int .i64 0])) w' := by
  refine ⟨?_, hb⟩
  unfold quoV quoE
  rw [if_pos h, if_pos h, if_neg (by simp [hn]), ← hs, data_self]
set_option maxHeartbeats 1000000 in
theorem quote_any (s : ByteArray) (w : World) (hs : s.size ≤ 281474976710656) :
    Calls Tryd.prog 19 #[.string s] w (QuP s.data.toList w) := by
  have n1 : ¬ 9223372036854775807 < 1 + s.size := by omega
  have n2 : ¬ 9223372036854775807 < 1 + s.size + 1 := by omega
  have cl := fun w => clone_any s w hs
  rcases Nat.eq_zero_or_pos s.size with h0 | h0
  · obtain rfl : s = ⟨#[]⟩ := by rw [← data_self s, List.length_eq_zero_iff.1 (show s.data.toList.length = 0 by simp [h0])]
    clear h0 n1 n2 cl hs
    go_enter Tryd.func19, Tryd.ntmps19
    go_wp2
    refine wp_loop_rounds 1 ?_
    rw [rounds_succ]
    go_wp2
    go_ret2
    exact quP_need (s := ⟨#[]⟩) rfl rfl rfl (Below.refl _ _)
  · have te := toList_some s h0
    have he : s.data.toList.isEmpty = false := by
      rw [cons_of s h0]; rfl
    have g0 : (0 : Int) < s.size := by omega
    have hne : needB s.data.toList = !s.data.toList.all plnB := by unfold needB; rw [he]; rfl
    have HNE := Lib.hid hne
    clear hne he
    go_enter Tryd.func19, Tryd.ntmps19
    go_wp2
    go_loop [4, 10] (fun q i => ∃ j : Nat, j ≤ s.size ∧ i = .int .i64 j ∧ q = .bool (!(s.data.toList.take j).all plnB) ∧ (s.data.toList.take j).all shwB = true) (fun _ i => s.size - (intOf i).toNat)
    case atStart => exact ⟨0, Nat.zero_le _, rfl, by simp, by simp⟩
    case round =>
      obtain ⟨j, hj, rfl, rfl, ha⟩ := hrel
      by_cases hlt : j < s.size
      · have hta := all_take hlt ha
        cases hc : shwB s[j]
        · have HF := Lib.hid (all_bad hlt hc)
          have qt := fun w => quotable_b s[j] false hc w
          clear ha hc hta
          generalize (s.data.toList.take j).all plnB = q at *
          go_wp2_with (fail)
          refine (qt _).mono ?_
          rintro e w' ⟨rfl, rfl⟩
          go_wp2
          go_ret2
          exact quP_bad HF.out (Below.refl _ _)
        · have HA := Lib.hid (hta.trans hc)
          have qt := fun w => quotable_b s[j] true hc w
          obtain ⟨v, hv⟩ : ∃ v, plnB s[j] = v := ⟨_, rfl⟩
          have bt := fun w => bare_b s[j] v hv w
          have hq : (s.data.toList.take (j + 1)).all plnB = ((s.data.toList.take j).all plnB && v) := by rw [byte_take s j hlt, List.all_append]; simp [hv]
          have HQ := Lib.hid hq
          clear ha hc hta hv hq
          cases hp : (s.data.toList.take j).all plnB
          · rw [hp] at HQ
            clear hp bt
            go_wp2_with (fail)
            refine (qt _).mono ?_
            rintro e w' ⟨rfl, rfl⟩
            go_wp2
            go_round
            case rel => exact ⟨j + 1, by omega, by go_num, by rw [HQ.out]; rfl, HA.out⟩
            case measure => simp [intOf]; omega
          · rw [hp] at HQ
            clear hp
            go_wp2_with (fail)
            refine (qt _).mono ?_
            rintro e w' ⟨rfl, rfl⟩
            go_wp2_with (fail)
            refine (bt _).mono ?_
            rintro e w' ⟨rfl, rfl⟩
            go_wp2
            go_round
            case rel => exact ⟨j + 1, by omega, by go_num, by rw [HQ.out]; rfl, HA.out⟩
            case measure => simp [intOf]; omega
      · obtain rfl : j = s.size := by omega
        rw [take_all] at ha ⊢
        have HA := Lib.hid ha
        cases hp : s.data.toList.all plnB
        · have HN := Lib.hid (HNE.out.trans (by rw [hp]))
          clear ha hp
          go_wp2
          go_ret2
          exact quP_need HA.out HN.out rfl (Below.refl _ _)
        · have HN := Lib.hid (HNE.out.trans (by rw [hp]))
          clear ha hp
          go_wp2_with (fail)
          refine (cl _).mono ?_
          rintro e w1 ⟨rfl, hb⟩
          go_wp2
          go_ret2
          exact quP_plain HA.out HN.out rfl hb
end Go.Proofs.YthndkplmhpbgdaaDoor
