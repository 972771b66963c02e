/- WordInts: the document's Int, and the whole walk. -/
import Derived.Test.YthndkplmhpbgdaaDoorWrdH
namespace Go.Proofs.YthndkplmhpbgdaaDoor
open Go.RowKit
set_option linter.unusedVariables false
set_option linter.unusedSimpArgs false

theorem num_nine {l : List UInt8} (h : l.all isDg = true) (hl : l.length ≤ 9) : 0 ≤ numG 0 l ∧ numG 0 l ≤ 999999999 := by
  have := numG_bd l 0 h (by omega)
  have hp : (10 : Int) ^ l.length ≤ 10 ^ 9 := by
    have : (10 : Nat) ^ l.length ≤ 10 ^ 9 := Nat.pow_le_pow_right (by omega) hl
    exact_mod_cast this
  have e : (10 : Int) ^ 9 = 1000000000 := by decide
  omega
theorem all_takes {p : UInt8 → Bool} {l : List UInt8} {j k : Nat} (h : (l.take j).all p = true) (hk : k ≤ j) : (l.take k).all p = true := by
  rw [List.all_eq_true] at h ⊢
  intro x hx
  refine h x ?_
  have : l.take k = (l.take j).take k := by rw [List.take_take, Nat.min_eq_left hk]
  rw [this] at hx
  exact List.mem_of_mem_take hx
theorem intV_no {l : List UInt8} (h : whoB (intD l) = false) : intV l = (0, 5) := by unfold intV; rw [if_pos (.inl h)]
theorem intV_zero {l : List UInt8} (h : preB 45 l = true) (h2 : intD l = [48]) : intV l = (0, 5) := by unfold intV; rw [if_pos (.inr ⟨h, h2⟩)]
theorem intV_far {l : List UInt8} (h : whoB (intD l) = true) (h2 : preB 45 l = true → intD l ≠ [48]) (h3 : 9 < (intD l).length) : intV l = (0, 1) := by
  unfold intV
  rw [if_neg (by rintro (q | q); · rw [h] at q; cases q
                 · exact h2 q.1 q.2), if_pos h3]
theorem intV_is {l : List UInt8} {b : Bool} (h : whoB (intD l) = true) (h2 : preB 45 l = true → intD l ≠ [48]) (h3 : ¬ 9 < (intD l).length) (hb : preB 45 l = b) : intV l = (if b = true then -(numG 0 (intD l)) else numG 0 (intD l), 0) := by
  unfold intV
  rw [if_neg (by rintro (q | q); · rw [h] at q; cases q
                 · exact h2 q.1 q.2), if_neg h3, hb]
def RinP (l : List UInt8) (w : World) (e : Ending) (w' : World) : Prop := e = .returned (.tuple #[.int .i64 (intV l).1, .int .i64 (intV l).2]) ∧ w = w'
theorem rinP_mk {l : List UInt8} {w : World} {a b : Int} (h : intV l = (a, b)) : RinP l w (.returned (.tuple #[.int .i64 a, .int .i64 b])) w := by
  refine ⟨?_, rfl⟩
  rw [h]
set_option maxHeartbeats 4000000 in
theorem rint_minus (s T : ByteArray) (w : World) (hs : s.size ≤ 60) (h0 : 0 < s.size) (h45 : s[0].toNat = 45) (ht : s.extract 1 s.size = T) (hD : T.data.toList = intD s.data.toList) (hpre : preB 45 s.data.toList = true) :
    Calls Tryd.prog 21 #[.string s] w (RinP s.data.toList w) := by
  have a1 : (0 : Int) < s.size := by omega
  have a2 : ((s[0].toNat : Int) == 45) = true := by rw [beq_iff_eq]; omega
  have a3 : (1 : Int) ≤ s.size := by omega
  have hts : T.size = s.size - 1 := by rw [← ht, ByteArray.size_extract]; omega
  have hT9 : T.size ≤ 60 := by omega
  clear hts h45
  have HVN := Lib.hid hpre
  have hTl := data_len T
  have HTl := Lib.hid hTl
  clear hpre
  rcases Nat.eq_zero_or_pos T.size with z0 | z0
  · have te := toList_none T z0
    have HE := Lib.hid (intV_no (l := s.data.toList) (by rw [← hD]; exact whoB_empty z0))
    clear z0 hD
    go_enter Tryd.func21, Tryd.ntmps21
    go_wp2
    go_ret2
    exact rinP_mk HE.out
  · have te := toList_some T z0
    have g0 : (0 : Int) < T.size := by omega
    have HD := Lib.hid hD
    clear hD
    go_enter Tryd.func21, Tryd.ntmps21
    go_wp2
    clear ht
    go_loop [6, 7] (fun n i => ∃ j : Nat, j ≤ T.size ∧ i = .int .i64 j ∧ n = .int .i64 (numG 0 (T.data.toList.take (min j 9))) ∧ (T.data.toList.take j).all isDg = true) (fun _ i => T.size - (intOf i).toNat)
    case atStart => exact ⟨0, Nat.zero_le _, rfl, by simp [numG], by simp⟩
    case round =>
      obtain ⟨j, hj, rfl, rfl, ha⟩ := hrel
      have hn := num_nine (all_takes (k := min j 9) ha (Nat.min_le_left _ _)) (by rw [List.length_take]; omega)
      by_cases hlt : j < T.size
      · cases hc : isDg T[j]
        · have HE := Lib.hid (intV_no (l := s.data.toList) (by rw [← HD.out]; unfold whoB; rw [all_bad hlt hc]; simp))
          have hb := isDg_no hc
          clear hc ha
          generalize numG 0 (T.data.toList.take (min j 9)) = N at *
          rcases hb with hb | hb
          · go_wp2
            go_ret2
            exact rinP_mk HE.out
          · have hb2 : ¬ (T[j].toNat : Int) < 48 := by omega
            go_wp2
            go_ret2
            exact rinP_mk HE.out
        · have HA := Lib.hid ((all_take hlt ha).trans hc)
          obtain ⟨b1, b2⟩ := isDg_yes hc
          by_cases h9 : j < 9
          · have hN : numG 0 (T.data.toList.take (min (j + 1) 9)) = numG 0 (T.data.toList.take (min j 9)) * 10 + ((T[j].toNat : Int) - 48) := by
              rw [show min (j + 1) 9 = j + 1 by omega, show min j 9 = j by omega, byte_take T j hlt, numG_append]; rfl
            have HN := Lib.hid hN
            have g9 : (j : Int) < 9 := by omega
            clear hc ha hN h9
            generalize numG 0 (T.data.toList.take (min j 9)) = N at *
            go_wp2
            go_round
            case rel => exact ⟨j + 1, by omega, by go_num, by rw [HN.out]; exact congrArg (Value.int .i64) (by omega), HA.out⟩
            case measure => simp [intOf]; omega
          · have HN := Lib.hid (show numG 0 (T.data.toList.take (min (j + 1) 9)) = numG 0 (T.data.toList.take (min j 9)) by rw [show min (j + 1) 9 = min j 9 by omega])
            have g9 : ¬ (j : Int) < 9 := by omega
            clear hc ha h9
            generalize numG 0 (T.data.toList.take (min j 9)) = N at *
            go_wp2
            go_round
            case rel => exact ⟨j + 1, by omega, by go_num, by rw [HN.out], HA.out⟩
            case measure => simp [intOf]; omega
      · obtain rfl : j = T.size := by omega
        rw [take_all] at ha
        by_cases h48 : T[0].toNat = 48
        · have t48 : ((T[0].toNat : Int) == 48) = true := by rw [beq_iff_eq]; omega
          by_cases h1 : 1 < T.size
          · have HE := Lib.hid (intV_no (l := s.data.toList) (by rw [← HD.out]; exact whoB_zero h1 h48))
            have g1 : (1 : Int) < T.size := by omega
            clear ha h48
            generalize numG 0 (T.data.toList.take (min T.size 9)) = N at *
            go_wp2
            go_ret2
            exact rinP_mk HE.out
          · have g1 : ¬ (1 : Int) < T.size := by omega
            have hz := (zero_eq T z0 (by omega)).1 h48
            have hz2 : intD s.data.toList = [48] := by rw [← HD.out, hz]
            have HE := Lib.hid (intV_zero HVN.out hz2)
            clear ha h48 hz hz2
            generalize numG 0 (T.data.toList.take (min T.size 9)) = N at *
            go_wp2
            go_ret2
            exact rinP_mk HE.out
        · have t48 : ((T[0].toNat : Int) == 48) = false := by rw [beq_eq_false_iff_ne]; omega
          have hw : whoB (intD s.data.toList) = true := by rw [← HD.out, whoB_of z0 (.inr h48), ha]
          have hne : preB 45 s.data.toList = true → intD s.data.toList ≠ [48] := fun _ q => by
            rw [← HD.out] at q
            have hh := head_of T z0
            rw [q] at hh
            simp at hh
            exact h48 (by rw [← hh]; rfl)
          by_cases h9 : 9 < T.size
          · have HE := Lib.hid (intV_far hw hne (by rw [← HD.out, HTl.out]; exact h9))
            have g9 : (9 : Int) < T.size := by omega
            clear ha h48 hw hne
            generalize numG 0 (T.data.toList.take (min T.size 9)) = N at *
            go_wp2
            go_ret2
            exact rinP_mk HE.out
          · have HE := Lib.hid ((intV_is hw hne (by rw [← HD.out, HTl.out]; exact h9) HVN.out).trans (by rw [if_pos rfl, ← HD.out]))
            have g9 : ¬ (9 : Int) < T.size := by omega
            have e9 : T.data.toList.take (min T.size 9) = T.data.toList := List.take_of_length_le (by rw [HTl.out]; omega)
            rw [e9] at hn ⊢
            clear ha h48 hw hne e9
            generalize numG 0 T.data.toList = N at *
            go_wp2
            go_ret2
            exact rinP_mk HE.out
set_option maxHeartbeats 4000000 in
theorem rint_plain (T : ByteArray) (w : World) (hs : T.size ≤ 60) (hpre : preB 45 T.data.toList = false) (h0 : ∀ h : 0 < T.size, ((T[0].toNat : Int) == 45) = false) :
    Calls Tryd.prog 21 #[.string T] w (RinP T.data.toList w) := by
  have hD : T.data.toList = intD T.data.toList := by unfold intD; rw [hpre, if_neg (by simp)]
  have HVN := Lib.hid hpre
  have hTl := data_len T
  have HTl := Lib.hid hTl
  clear hpre
  rcases Nat.eq_zero_or_pos T.size with z0 | z0
  · have te := toList_none T z0
    have zz : ¬ (0 : Int) < T.size := by omega
    have HE := Lib.hid (intV_no (l := T.data.toList) (by rw [← hD]; exact whoB_empty z0))
    clear z0 hD
    go_enter Tryd.func21, Tryd.ntmps21
    go_wp2
    go_ret2
    exact rinP_mk HE.out
  · have te := toList_some T z0
    have g0 : (0 : Int) < T.size := by omega
    have t45 : ((T[0].toNat : Int) == 45) = false := h0 z0
    have HD := Lib.hid hD
    clear hD
    go_enter Tryd.func21, Tryd.ntmps21
    go_wp2
    go_loop [6, 7] (fun n i => ∃ j : Nat, j ≤ T.size ∧ i = .int .i64 j ∧ n = .int .i64 (numG 0 (T.data.toList.take (min j 9))) ∧ (T.data.toList.take j).all isDg = true) (fun _ i => T.size - (intOf i).toNat)
    case atStart => exact ⟨0, Nat.zero_le _, rfl, by simp [numG], by simp⟩
    case round =>
      obtain ⟨j, hj, rfl, rfl, ha⟩ := hrel
      have hn := num_nine (all_takes (k := min j 9) ha (Nat.min_le_left _ _)) (by rw [List.length_take]; omega)
      by_cases hlt : j < T.size
      · cases hc : isDg T[j]
        · have HE := Lib.hid (intV_no (l := T.data.toList) (by rw [← HD.out]; unfold whoB; rw [all_bad hlt hc]; simp))
          have hb := isDg_no hc
          clear hc ha
          generalize numG 0 (T.data.toList.take (min j 9)) = N at *
          rcases hb with hb | hb
          · go_wp2
            go_ret2
            exact rinP_mk HE.out
          · have hb2 : ¬ (T[j].toNat : Int) < 48 := by omega
            go_wp2
            go_ret2
            exact rinP_mk HE.out
        · have HA := Lib.hid ((all_take hlt ha).trans hc)
          obtain ⟨b1, b2⟩ := isDg_yes hc
          by_cases h9 : j < 9
          · have hN : numG 0 (T.data.toList.take (min (j + 1) 9)) = numG 0 (T.data.toList.take (min j 9)) * 10 + ((T[j].toNat : Int) - 48) := by
              rw [show min (j + 1) 9 = j + 1 by omega, show min j 9 = j by omega, byte_take T j hlt, numG_append]; rfl
            have HN := Lib.hid hN
            have g9 : (j : Int) < 9 := by omega
            clear hc ha hN h9
            generalize numG 0 (T.data.toList.take (min j 9)) = N at *
            go_wp2
            go_round
            case rel => exact ⟨j + 1, by omega, by go_num, by rw [HN.out]; exact congrArg (Value.int .i64) (by omega), HA.out⟩
            case measure => simp [intOf]; omega
          · have HN := Lib.hid (show numG 0 (T.data.toList.take (min (j + 1) 9)) = numG 0 (T.data.toList.take (min j 9)) by rw [show min (j + 1) 9 = min j 9 by omega])
            have g9 : ¬ (j : Int) < 9 := by omega
            clear hc ha h9
            generalize numG 0 (T.data.toList.take (min j 9)) = N at *
            go_wp2
            go_round
            case rel => exact ⟨j + 1, by omega, by go_num, by rw [HN.out], HA.out⟩
            case measure => simp [intOf]; omega
      · obtain rfl : j = T.size := by omega
        rw [take_all] at ha
        by_cases h48 : T[0].toNat = 48
        · have t48 : ((T[0].toNat : Int) == 48) = true := by rw [beq_iff_eq]; omega
          by_cases h1 : 1 < T.size
          · have HE := Lib.hid (intV_no (l := T.data.toList) (by rw [← HD.out]; exact whoB_zero h1 h48))
            have g1 : (1 : Int) < T.size := by omega
            clear ha h48
            generalize numG 0 (T.data.toList.take (min T.size 9)) = N at *
            go_wp2
            go_ret2
            exact rinP_mk HE.out
          · have g1 : ¬ (1 : Int) < T.size := by omega
            have hz := (zero_eq T z0 (by omega)).1 h48
            have hz2 : intD T.data.toList = [48] := by rw [← HD.out, hz]
            have HE := Lib.hid ((intV_is (l := T.data.toList) (by rw [hz2]; rfl) (fun q => by rw [HVN.out] at q; cases q) (by rw [hz2]; simp) HVN.out).trans (by rw [if_neg (by simp), ← HD.out]))
            have g9 : ¬ (9 : Int) < T.size := by omega
            have e9 : T.data.toList.take (min T.size 9) = T.data.toList := List.take_of_length_le (by rw [HTl.out]; omega)
            rw [e9] at hn ⊢
            clear ha h48 hz hz2 e9
            generalize numG 0 T.data.toList = N at *
            go_wp2
            go_ret2
            exact rinP_mk HE.out
        · have t48 : ((T[0].toNat : Int) == 48) = false := by rw [beq_eq_false_iff_ne]; omega
          have hw : whoB (intD T.data.toList) = true := by rw [← HD.out, whoB_of z0 (.inr h48), ha]
          have hne : preB 45 T.data.toList = true → intD T.data.toList ≠ [48] := fun _ q => by
            rw [← HD.out] at q
            have hh := head_of T z0
            rw [q] at hh
            simp at hh
            exact h48 (by rw [← hh]; rfl)
          by_cases h9 : 9 < T.size
          · have HE := Lib.hid (intV_far hw hne (by rw [← HD.out, HTl.out]; exact h9))
            have g9 : (9 : Int) < T.size := by omega
            clear ha h48 hw hne
            generalize numG 0 (T.data.toList.take (min T.size 9)) = N at *
            go_wp2
            go_ret2
            exact rinP_mk HE.out
          · have HE := Lib.hid ((intV_is hw hne (by rw [← HD.out, HTl.out]; exact h9) HVN.out).trans (by rw [if_neg (by simp), ← HD.out]))
            have g9 : ¬ (9 : Int) < T.size := by omega
            have e9 : T.data.toList.take (min T.size 9) = T.data.toList := List.take_of_length_le (by rw [HTl.out]; omega)
            rw [e9] at hn ⊢
            clear ha h48 hw hne e9
            generalize numG 0 T.data.toList = N at *
            go_wp2
            go_ret2
            exact rinP_mk HE.out
theorem rint_any (s : ByteArray) (w : World) (hs : s.size ≤ 60) : Calls Tryd.prog 21 #[.string s] w (RinP s.data.toList w) := by
  cases hp : preB 45 s.data.toList
  · refine rint_plain s w hs hp ?_
    intro h0
    rw [cons_of s h0, preB_cons] at hp
    rw [beq_eq_false_iff_ne] at hp ⊢
    intro e
    exact hp (byte_eq (d := 45) (by rw [e]; rfl))
  · have h0 : 0 < s.size := by
      rcases Nat.eq_zero_or_pos s.size with h0 | h0
      · rw [List.length_eq_zero_iff.1 (show s.data.toList.length = 0 by simp [h0])] at hp
        simp [preB] at hp
      · exact h0
    refine rint_minus s _ w hs h0 ?_ rfl ?_ hp
    · rw [cons_of s h0, preB_cons, beq_iff_eq] at hp
      rw [hp]; rfl
    · rw [ext_tail s h0]
      unfold intD
      rw [hp, if_pos rfl]
set_option maxHeartbeats 1000000 in
theorem wWordInts (s : ByteArray) (w : World) (hs : s.size ≤ 9223372036854775807) : Calls Tryd.prog 5 #[.string s] w fun e w' => e = .returned (.bool true) ∧ Below w.heap.size w w' := by
  by_cases h60 : 60 < s.size
  · have g : (60 : Int) < s.size := by omega
    go_enter Tryd.func5, Tryd.ntmps5
    go_wp2_with (fail)
    refine (reads_any _).mono ?_
    rintro e w1 ⟨rfl, hb⟩
    go_wp2
    go_ret
    exact ⟨rfl, hb⟩
  · have g : ¬ (60 : Int) < s.size := by omega
    have c1 := fun w => int_any s w (by omega)
    have c2 := fun w => rint_any s w (by omega)
    go_enter Tryd.func5, Tryd.ntmps5
    go_wp2_with (fail)
    refine (reads_any _).mono ?_
    rintro e w1 ⟨rfl, B1⟩
    go_wp2_with (fail)
    refine (c1 _).mono ?_
    rintro e w2 ⟨rfl, hb⟩
    have B2 := below_step B1 hb B1.size
    go_wp2_with (fail)
    refine (c2 _).mono ?_
    rintro e w' ⟨rfl, rfl⟩
    go_wp2
    go_ret
    exact ⟨rfl, B2⟩
end Go.Proofs.YthndkplmhpbgdaaDoor
