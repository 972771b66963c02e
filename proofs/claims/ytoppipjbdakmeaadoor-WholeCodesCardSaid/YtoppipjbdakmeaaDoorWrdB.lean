/- What the calls of word answer: Quote; the document's Plain and Shown. -/
import Derived.Test.YtoppipjbdakmeaaDoorWrdA
namespace Go.Proofs.YtoppipjbdakmeaaDoor
open Go.RowKit
set_option linter.unusedVariables false
set_option linter.unusedSimpArgs false

/-- what Quote answers -/
def QuP (l : List UInt8) (w : World) (e : Ending) (w' : World) : Prop := e = .returned (.tuple #[.string ⟨(quoV l).toArray⟩, .int .i64 (quoE l)]) ∧ Below w.heap.size w w'
theorem quP_bad {l : List UInt8} {w w' : World} (h : l.all shwB = false) (hb : Below w.heap.size w w') : QuP l w (.returned (.tuple #[.string ⟨#[]⟩, .int .i64 5])) w' := by
  refine ⟨?_, hb⟩
  unfold quoV quoE
  rw [if_neg (by simp [h]), if_neg (by simp [h])]
theorem quP_need {l : List UInt8} {w w' : World} {s : ByteArray} (h : l.all shwB = true) (hn : needB l = true) (hs : s.data.toList = l) (hb : Below w.heap.size w w') : QuP l w (.returned (.tuple #[.string (⟨#[34]⟩ ++ s ++ ⟨#[34]⟩), .int .i64 0])) w' := by
  refine ⟨?_, hb⟩
  unfold quoV quoE
  rw [if_pos h, if_pos h, if_pos hn]
  have : (⟨#[34]⟩ ++ s ++ ⟨#[34]⟩ : ByteArray) = ⟨(34 :: (l ++ [34])).toArray⟩ := by
    apply ByteArray.ext
    subst hs
    apply Array.ext'
    simp [ByteArray.data_append]
  rw [this]
theorem quP_plain {l : List UInt8} {w w' : World} {s : ByteArray} (h : l.all shwB = true) (hn : needB l = false) (hs : s.data.toList = l) (hb : Below w.heap.size w w') : QuP l w (.returned (.tuple #[.string s, .int .i64 0])) w' := by
  refine ⟨?_, hb⟩
  unfold quoV quoE
  rw [if_pos h, if_pos h, if_neg (by simp [hn]), ← hs, data_self]
set_option maxHeartbeats 1000000 in
theorem quote_any (s : ByteArray) (w : World) (hs : s.size ≤ 281474976710656) :
    Calls Tryd.prog 53 #[.string s] w (QuP s.data.toList w) := by
  have n1 : ¬ 9223372036854775807 < 1 + s.size := by omega
  have n2 : ¬ 9223372036854775807 < 1 + s.size + 1 := by omega
  have cl := fun w => clone_any s w hs
  rcases Nat.eq_zero_or_pos s.size with h0 | h0
  · obtain rfl : s = ⟨#[]⟩ := by rw [← data_self s, List.length_eq_zero_iff.1 (show s.data.toList.length = 0 by simp [h0])]
    clear h0 n1 n2 cl hs
    go_enter Tryd.func53, Tryd.ntmps53
    go_wp2
    refine wp_loop_rounds 1 ?_
    rw [rounds_succ]
    go_wp2
    go_ret2
    exact quP_need (s := ⟨#[]⟩) rfl rfl rfl (Below.refl _ _)
  · have te := toList_some s h0
    have he : s.data.toList.isEmpty = false := by
      rw [cons_of s h0]; rfl
    have g0 : (0 : Int) < s.size := by omega
    have hne : needB s.data.toList = !s.data.toList.all plnB := by unfold needB; rw [he]; rfl
    have HNE := Lib.hid hne
    clear hne he
    go_enter Tryd.func53, Tryd.ntmps53
    go_wp2
    go_loop [4, 10] (fun q i => ∃ j : Nat, j ≤ s.size ∧ i = .int .i64 j ∧ q = .bool (!(s.data.toList.take j).all plnB) ∧ (s.data.toList.take j).all shwB = true) (fun _ i => s.size - (intOf i).toNat)
    case atStart => exact ⟨0, Nat.zero_le _, rfl, by simp, by simp⟩
    case round =>
      obtain ⟨j, hj, rfl, rfl, ha⟩ := hrel
      by_cases hlt : j < s.size
      · have hta := all_take hlt ha
        cases hc : shwB s[j]
        · have HF := Lib.hid (all_bad hlt hc)
          have qt := fun w => quotable_b s[j] false hc w
          clear ha hc hta
          generalize (s.data.toList.take j).all plnB = q at *
          go_wp2_with (fail)
          refine (qt _).mono ?_
          rintro e w' ⟨rfl, rfl⟩
          go_wp2
          go_ret2
          exact quP_bad HF.out (Below.refl _ _)
        · have HA := Lib.hid (hta.trans hc)
          have qt := fun w => quotable_b s[j] true hc w
          obtain ⟨v, hv⟩ : ∃ v, plnB s[j] = v := ⟨_, rfl⟩
          have bt := fun w => bare_b s[j] v hv w
          have hq : (s.data.toList.take (j + 1)).all plnB = ((s.data.toList.take j).all plnB && v) := by rw [byte_take s j hlt, List.all_append]; simp [hv]
          have HQ := Lib.hid hq
          clear ha hc hta hv hq
          cases hp : (s.data.toList.take j).all plnB
          · rw [hp] at HQ
            clear hp bt
            go_wp2_with (fail)
            refine (qt _).mono ?_
            rintro e w' ⟨rfl, rfl⟩
            go_wp2
            go_round
            case rel => exact ⟨j + 1, by omega, by go_num, by rw [HQ.out]; rfl, HA.out⟩
            case measure => simp [intOf]; omega
          · rw [hp] at HQ
            clear hp
            go_wp2_with (fail)
            refine (qt _).mono ?_
            rintro e w' ⟨rfl, rfl⟩
            go_wp2_with (fail)
            refine (bt _).mono ?_
            rintro e w' ⟨rfl, rfl⟩
            go_wp2
            go_round
            case rel => exact ⟨j + 1, by omega, by go_num, by rw [HQ.out]; rfl, HA.out⟩
            case measure => simp [intOf]; omega
      · obtain rfl : j = s.size := by omega
        rw [take_all] at ha ⊢
        have HA := Lib.hid ha
        cases hp : s.data.toList.all plnB
        · have HN := Lib.hid (HNE.out.trans (by rw [hp]))
          clear ha hp
          go_wp2
          go_ret2
          exact quP_need HA.out HN.out rfl (Below.refl _ _)
        · have HN := Lib.hid (HNE.out.trans (by rw [hp]))
          clear ha hp
          go_wp2_with (fail)
          refine (cl _).mono ?_
          rintro e w1 ⟨rfl, hb⟩
          go_wp2
          go_ret2
          exact quP_plain HA.out HN.out rfl hb
end Go.Proofs.YtoppipjbdakmeaaDoor
