/- What the calls of word answer: whole, Int; the document's Int. -/
import Derived.Test.YthknjpmhomjobaaGreatDoorWrdA
import Derived.Lib.Atoi
import Derived.Lib.SmallJoins
import Derived.Test.YthknjpmhomjobaaGreatDoorCodD
import Derived.Test.YthknjpmhomjobaaGreatDoorCodM
namespace Go.Proofs.YthknjpmhomjobaaGreatDoor
open Go.RowKit
set_option linter.unusedVariables false
set_option linter.unusedSimpArgs false

/-- is it digits, one at least, and a 0 ahead of no other one? -/
def whoB (l : List UInt8) : Bool := !l.isEmpty && (decide (l.length = 1) || !(l.head? == some 48)) && l.all isDg
theorem whoB_of {s : ByteArray} (h0 : 0 < s.size) (hz : s.size = 1 ∨ s[0].toNat ≠ 48) : whoB s.data.toList = s.data.toList.all isDg := by
  have hl := data_len s
  have hh := head_ofQ s h0
  have he : s.data.toList.isEmpty = false := by rw [cons_of s h0]; rfl
  unfold whoB
  rw [hl, hh, he]
  rcases hz with hz | hz
  · rw [decide_eq_true hz]; simp
  · have : ¬ s[0] = 48 := fun e => hz (by rw [e]; rfl)
    have : (some s[0] == some 48) = false := by simpa using this
    rw [this]; simp
theorem whoB_zero {s : ByteArray} (h1 : 1 < s.size) (hz : s[0].toNat = 48) : whoB s.data.toList = false := by
  have hl := data_len s
  have hh := head_ofQ s (by omega)
  have e : s[0] = 48 := UInt8.toNat_inj.1 hz
  unfold whoB
  rw [hl, hh, e, decide_eq_false (by omega)]
  simp
theorem whoB_empty {s : ByteArray} (h : s.size = 0) : whoB s.data.toList = false := by
  have : s.data.toList = [] := List.length_eq_zero_iff.1 (by simp [h])
  rw [this]; rfl
/-- the text of a 0 -/
theorem zero_eq (s : ByteArray) (h0 : 0 < s.size) (h1 : s.size = 1) : (s[0].toNat = 48 → s = ⟨#[48]⟩) ∧ (s[0].toNat ≠ 48 → s.data.toList ≠ [48]) := by
  have hc := cons_of s h0
  have hl := data_len s
  have ht : s.data.toList.tail = [] := by
    apply List.length_eq_zero_iff.1
    rw [List.length_tail]; omega
  rw [ht] at hc
  refine ⟨fun e => ?_, fun e q => ?_⟩
  · have e' : s[0] = 48 := UInt8.toNat_inj.1 e
    rw [← data_self s, hc, e']
  · rw [hc] at q
    simp at q
    exact e (by rw [q]; rfl)
theorem not_zero (s : ByteArray) (h : s.data.toList ≠ [48]) : (s.toList == (⟨#[48]⟩ : ByteArray).toList) = false := by
  rw [Lib.toList_data, Lib.toList_data]
  simpa using h
set_option maxHeartbeats 1000000 in
theorem whole_w (s : ByteArray) (w : World) (hs : s.size ≤ 4611686018427387904) :
    Calls Tryz.prog 54 #[.string s] w fun e w' => e = .returned (.bool (whoB s.data.toList)) ∧ w = w' := by
  rcases Nat.eq_zero_or_pos s.size with h0 | h0
  · rw [whoB_empty h0]
    obtain rfl : s = ⟨#[]⟩ := by rw [← data_self s, List.length_eq_zero_iff.1 (show s.data.toList.length = 0 by simp [h0])]
    clear h0 hs
    go_enter Tryz.func54, Tryz.ntmps54
    go_wp2
    refine wp_loop_rounds 1 ?_
    rw [rounds_succ]
    go_wp2
    go_ret
    exact ⟨rfl, rfl⟩
  · have te := toList_someQ s h0
    have g0 : (0 : Int) < s.size := by omega
    by_cases hz : s.data.toList = [48]
    · obtain rfl : s = ⟨#[48]⟩ := by rw [← data_self s, hz]
      clear h0 hs te g0 hz
      rw [show whoB (⟨#[48]⟩ : ByteArray).data.toList = true from rfl]
      have dg := fun w => digit_b 48 true rfl w
      go_enter Tryz.func54, Tryz.ntmps54
      go_wp2
      refine wp_loop_rounds 2 ?_
      rw [rounds_succ]
      go_wp2_with (fail)
      refine (dg _).mono ?_
      rintro e w' ⟨rfl, rfl⟩
      go_wp2
      rw [rounds_succ]
      go_wp2
      go_ret
      exact ⟨rfl, rfl⟩
    · have hq : (([48] : List UInt8) == s.toList) = false := by
        rw [Lib.toList_data]
        simpa using fun e => hz e.symm
      have hq2 : (s.toList == ([48] : List UInt8)) = false := by
        rw [Lib.toList_data]
        simpa using hz
      have hz2 : s.data.toList.all isDg = true → s[0].toNat = 48 → whoB s.data.toList = false := fun _ e => by
        rcases (show s.size = 1 ∨ 1 < s.size by omega) with h1 | h1
        · exact absurd (by have := (zero_eq s h0 h1).1 e; rw [this]) hz
        · exact whoB_zero h1 e
      have hz3 : s[0].toNat ≠ 48 → whoB s.data.toList = s.data.toList.all isDg := fun e => whoB_of h0 (.inr e)
      have hz4 : s.data.toList.all isDg = false → whoB s.data.toList = false := fun e => by unfold whoB; rw [e]; simp
      have HZ := Lib.hid hz2
      have HY := Lib.hid hz3
      have HX := Lib.hid hz4
      clear hz hz2 hz3 hz4
      go_enter Tryz.func54, Tryz.ntmps54
      go_wp2
      go_loop [6] (fun i => ∃ j : Nat, j ≤ s.size ∧ i = .int .i64 j ∧ (s.data.toList.take j).all isDg = true) (fun i => s.size - (intOf i).toNat)
      case atStart => exact ⟨0, Nat.zero_le _, rfl, by simp⟩
      case round =>
        obtain ⟨j, hj, rfl, ha⟩ := hrel
        by_cases hlt : j < s.size
        · have hta := all_take hlt ha
          cases hc : isDg s[j]
          · have HF := Lib.hid (HX.out (all_bad hlt hc))
            have dg := fun w => digit_b s[j] false hc w
            clear ha hc hta
            go_wp2_with (fail)
            refine (dg _).mono ?_
            rintro e w' ⟨rfl, rfl⟩
            go_wp2
            go_ret
            exact ⟨ret_b HF.out.symm, rfl⟩
          · have HA := Lib.hid (hta.trans hc)
            have dg := fun w => digit_b s[j] true hc w
            clear ha hc hta
            go_wp2_with (fail)
            refine (dg _).mono ?_
            rintro e w' ⟨rfl, rfl⟩
            go_wp2
            go_round
            case rel => exact ⟨j + 1, by omega, by go_num, HA.out⟩
            case measure => simp [intOf]; omega
        · obtain rfl : j = s.size := by omega
          rw [take_all] at ha
          by_cases h48 : s[0].toNat = 48
          · have HA := Lib.hid (HZ.out ha h48)
            have t : ((s[0].toNat : Int) != 48) = false := by simp; omega
            clear ha h48
            go_wp2
            go_ret
            exact ⟨ret_b HA.out.symm, rfl⟩
          · have HA := Lib.hid ((HY.out h48).trans ha)
            have t : ((s[0].toNat : Int) != 48) = true := by simp; omega
            clear ha h48
            go_wp2
            go_ret
            exact ⟨ret_b HA.out.symm, rfl⟩
theorem whole_b (s : ByteArray) (l : List UInt8) (hl : s.data.toList = l) (v : Bool) (h : whoB l = v) (w : World) (hs : s.size ≤ 4611686018427387904) : Calls Tryz.prog 54 #[.string s] w fun e w' => e = .returned (.bool v) ∧ w = w' := by
  subst hl h
  exact whole_w s w hs
theorem dec_num : ∀ (l : List UInt8) (x : Nat), l.all isDg = true → Lib.decFrom x l = some (numG (x : Int) l).toNat
  | [], x, _ => by simp [Lib.decFrom, numG]
  | c :: r, x, h => by
    simp only [List.all_cons, Bool.and_eq_true] at h
    obtain ⟨c1, c2⟩ := isDg_yes h.1
    have hd : Lib.digitVal c = some (c.toNat - 48) := by
      unfold Lib.digitVal; rw [if_pos (by omega)]
    have ih := dec_num r (x * 10 + (c.toNat - 48)) h.2
    simp only [Lib.decFrom, hd, numG]
    rw [ih]
    congr 3
    omega
theorem whoB_yes {l : List UInt8} (h : whoB l = true) : l ≠ [] ∧ l.all isDg = true := by
  unfold whoB at h
  simp only [Bool.and_eq_true, Bool.not_eq_true'] at h
  exact ⟨by intro e; subst e; simp at h, h.2⟩
/-- a word's whole number, and why it is none -/
def intD (l : List UInt8) : List UInt8 := if preB 45 l = true then l.tail else l
def intV (l : List UInt8) : Int × Int :=
  if whoB (intD l) = false ∨ (preB 45 l = true ∧ intD l = [48]) then (0, 5)
  else if 9 < (intD l).length then (0, 1)
  else (if preB 45 l = true then -(numG 0 (intD l)) else numG 0 (intD l), 0)
theorem atoi_of {l : List UInt8} (h : whoB (intD l) = true) : Lib.atoi l = some (if preB 45 l = true then -(numG 0 (intD l)) else numG 0 (intD l)) := by
  obtain ⟨hn, ha⟩ := whoB_yes h
  have hnn := (numG_bd (intD l) 0 ha (by omega)).1
  have h0 : (0 : Int) * 10 ^ (intD l).length = 0 := Int.zero_mul _
  rw [h0] at hnn
  have hd := dec_num (intD l) 0 ha
  have hdn : Lib.decNat (intD l) = some (numG 0 (intD l)).toNat := by
    unfold Lib.decNat
    rw [if_neg (by cases hi : intD l with
      | nil => exact absurd hi hn
      | cons => simp), hd]
    rfl
  cases hp : preB 45 l
  · have e : intD l = l := by unfold intD; rw [hp, if_neg (by simp)]
    rw [e] at hdn hn ha hnn ⊢
    cases l with
    | nil => exact absurd rfl hn
    | cons c r =>
      rw [preB_cons] at hp
      simp only [List.all_cons, Bool.and_eq_true] at ha
      obtain ⟨c1, c2⟩ := isDg_yes ha.1
      have h43 : (c == 43) = false := by
        rw [beq_eq_false_iff_ne]
        intro e; subst e; revert c1; decide
      show (if (c == 45) = true then (Lib.decNat r).map (fun (m : Nat) => -(m : Int)) else if (c == 43) = true then (Lib.decNat r).map (fun (m : Nat) => (m : Int)) else (Lib.decNat (c :: r)).map (fun (m : Nat) => (m : Int))) = _
      rw [hp, if_neg (by simp), h43, if_neg (by simp), hdn]
      simp
      omega
  · have e : intD l = l.tail := by unfold intD; rw [hp, if_pos rfl]
    rw [e] at hdn hnn ⊢
    have hl := preB_yes hp
    rw [hl]
    unfold Lib.atoi
    simp only [beq_self_eq_true, if_true, List.tail_cons]
    rw [hdn]
    simp
    omega
def IntP (l : List UInt8) (w : World) (e : Ending) (w' : World) : Prop := e = .returned (.tuple #[.int .i64 (intV l).1, .int .i64 (intV l).2]) ∧ Below w.heap.size w w'
theorem intP_mk {l : List UInt8} {w w' : World} {a b : Int} (h : intV l = (a, b)) (hb : Below w.heap.size w w') : IntP l w (.returned (.tuple #[.int .i64 a, .int .i64 b])) w' := by
  refine ⟨?_, hb⟩
  rw [h]
/-- two texts, as they are compared -/
theorem eq_texts (T : ByteArray) (m : List UInt8) (b : Bool) (h : (T.data.toList == m) = b) : (m == T.toList) = b ∧ (T.toList == m) = b := by
  rw [Lib.toList_data]
  refine ⟨?_, h⟩
  rw [← h, Bool.eq_iff_iff, beq_iff_eq, beq_iff_eq]
  exact eq_comm
set_option maxHeartbeats 1000000 in
theorem int_any (s : ByteArray) (w : World) (hs : s.size ≤ 4611686018427387904) :
    Calls Tryz.prog 40 #[.string s] w (IntP s.data.toList w) := by
  obtain ⟨v, hv⟩ : ∃ v, preB 45 s.data.toList = v := ⟨_, rfl⟩
  obtain ⟨T, hT, c1⟩ := cutP_any 45 s v hv
  have hD : T.data.toList = intD s.data.toList := by rw [hT.1]; unfold intD; rw [hv]
  have hTs := hT.2
  have hl := data_len T
  have hsl : s.size ≤ T.size + 1 := by
    have := hT.1
    have := congrArg List.length this
    rw [hl, ← data_len s] at *
    split at this
    · rw [List.length_tail] at this; omega
    · omega
  cases hw : whoB (intD s.data.toList)
  · have HE := Lib.hid (show intV s.data.toList = (0, 5) by unfold intV; rw [if_pos (.inl hw)])
    have c2 := fun w => whole_b T _ hD false hw w (by omega)
    clear hv hT hD hw hl
    go_enter Tryz.func40, Tryz.ntmps40
    go_wp2_with (fail)
    refine (c1 _).mono ?_
    rintro e w' ⟨rfl, rfl⟩
    go_wp2_with (fail)
    refine (c2 _).mono ?_
    rintro e w' ⟨rfl, rfl⟩
    go_wp2
    go_ret2
    exact intP_mk HE.out (Below.refl _ _)
  have c2 := fun w => whole_b T _ hD true hw w (by omega)
  have hat := atoi_of hw
  cases v
  · by_cases h9 : 9 < T.size
    · have HE := Lib.hid (show intV s.data.toList = (0, 1) by unfold intV; rw [if_neg (by simp [hw, hv]), if_pos (by rw [← hD, hl]; exact h9)])
      have g9 : (9 : Int) < T.size := by omega
      clear hv hT hD hw hl hat
      go_enter Tryz.func40, Tryz.ntmps40
      go_wp2_with (fail)
      refine (c1 _).mono ?_
      rintro e w' ⟨rfl, rfl⟩
      go_wp2_with (fail)
      refine (c2 _).mono ?_
      rintro e w' ⟨rfl, rfl⟩
      go_wp2
      go_ret2
      exact intP_mk HE.out (Below.refl _ _)
    · have HE := Lib.hid (show intV s.data.toList = (numG 0 (intD s.data.toList), 0) by unfold intV; rw [if_neg (by simp [hw, hv]), if_neg (by rw [← hD, hl]; exact h9), hv]; rfl)
      rw [hv] at hat
      have g9 : ¬ (9 : Int) < T.size := by omega
      have at1 := fun w => Tryz.strconv_Atoi s _ (by omega) hat w
      simp only [Bool.false_eq_true, if_false] at at1
      clear hv hT hD hw hl hat
      generalize numG 0 (intD s.data.toList) = N at *
      go_enter Tryz.func40, Tryz.ntmps40
      go_wp2_with (fail)
      refine (c1 _).mono ?_
      rintro e w' ⟨rfl, rfl⟩
      go_wp2_with (fail)
      refine (c2 _).mono ?_
      rintro e w' ⟨rfl, rfl⟩
      go_wp2_with (fail)
      refine (at1 _).mono ?_
      rintro e w' ⟨rfl, tt, rfl⟩
      have hb := Go.Joins.below_bytesWorld w.heap.size w 5 tt (Nat.le_refl _)
      generalize Lib.bytesWorld w 5 tt = W1 at *
      go_wp2
      go_ret2
      exact intP_mk HE.out hb
  · cases hz : (T.data.toList == [48])
    · have hz2 : intD s.data.toList ≠ [48] := by rw [← hD]; simpa using hz
      obtain ⟨z1, z2⟩ := eq_texts T [48] false hz
      by_cases h9 : 9 < T.size
      · have HE := Lib.hid (show intV s.data.toList = (0, 1) by unfold intV; rw [if_neg (by simp [hw, hz2]), if_pos (by rw [← hD, hl]; exact h9)])
        have g9 : (9 : Int) < T.size := by omega
        clear hv hT hD hw hl hat hz hz2
        go_enter Tryz.func40, Tryz.ntmps40
        go_wp2_with (fail)
        refine (c1 _).mono ?_
        rintro e w' ⟨rfl, rfl⟩
        go_wp2_with (fail)
        refine (c2 _).mono ?_
        rintro e w' ⟨rfl, rfl⟩
        go_wp2
        go_ret2
        exact intP_mk HE.out (Below.refl _ _)
      · have HE := Lib.hid (show intV s.data.toList = (-(numG 0 (intD s.data.toList)), 0) by unfold intV; rw [if_neg (by simp [hw, hz2]), if_neg (by rw [← hD, hl]; exact h9), hv]; rfl)
        rw [hv] at hat
        have g9 : ¬ (9 : Int) < T.size := by omega
        have at1 := fun w => Tryz.strconv_Atoi s _ (by omega) hat w
        simp only [if_true] at at1
        clear hv hT hD hw hl hat hz hz2
        generalize -(numG 0 (intD s.data.toList)) = N at *
        go_enter Tryz.func40, Tryz.ntmps40
        go_wp2_with (fail)
        refine (c1 _).mono ?_
        rintro e w' ⟨rfl, rfl⟩
        go_wp2_with (fail)
        refine (c2 _).mono ?_
        rintro e w' ⟨rfl, rfl⟩
        go_wp2_with (fail)
        refine (at1 _).mono ?_
        rintro e w' ⟨rfl, tt, rfl⟩
        have hb := Go.Joins.below_bytesWorld w.heap.size w 5 tt (Nat.le_refl _)
        generalize Lib.bytesWorld w 5 tt = W1 at *
        go_wp2
        go_ret2
        exact intP_mk HE.out hb
    · have hz2 : intD s.data.toList = [48] := by rw [← hD]; simpa using hz
      obtain ⟨z1, z2⟩ := eq_texts T [48] true hz
      have HE := Lib.hid (show intV s.data.toList = (0, 5) by unfold intV; rw [if_pos (.inr ⟨hv, hz2⟩)])
      clear hv hT hD hw hl hat hz hz2
      go_enter Tryz.func40, Tryz.ntmps40
      go_wp2_with (fail)
      refine (c1 _).mono ?_
      rintro e w' ⟨rfl, rfl⟩
      go_wp2_with (fail)
      refine (c2 _).mono ?_
      rintro e w' ⟨rfl, rfl⟩
      go_wp2
      go_ret2
      exact intP_mk HE.out (Below.refl _ _)
end Go.Proofs.YthknjpmhomjobaaGreatDoor
