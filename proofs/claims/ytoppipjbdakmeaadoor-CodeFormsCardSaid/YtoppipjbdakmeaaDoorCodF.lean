/- What code.Text answers of any code. -/
import Derived.Test.YtoppipjbdakmeaaDoorCodE
import Derived.Shelf.Strconv.Itoa4
import Derived.Lib.LaidTab
import Derived.Lib.AppendIntMem
import Derived.Lib.SmallJoins
namespace Go.Proofs.YtoppipjbdakmeaaDoor
open Go.RowKit Go.Shelf
set_option linter.unusedVariables false
set_option linter.unusedSimpArgs false

/-- the table of the powers of ten -/
def Tab (w : World) : Prop := Lib.TabIs Tryd.prog w "internal/strconv.uint64pow10" .u64 Lib.pow10Tab
theorem Tab.below {w w' : World} (h : Tab w) (hb : Below w.heap.size w w') : Tab w' := (Lib.tabBelow_of_tabIs h) w' hb
theorem str_app (l m : List UInt8) : (ByteArray.mk l.toArray) ++ (ByteArray.mk m.toArray) = ByteArray.mk (l ++ m).toArray := by
  apply ByteArray.ext
  simp [ByteArray.data_append]
theorem ret_s {a b : ByteArray} (h : a = b) : Ending.returned (.string a) = .returned (.string b) := by rw [h]
theorem fmt_any (n : Int) (h : 0 ≤ n) (h' : n ≤ 999999) (w : World) (D : Tab w) : Calls Tryd.prog 74 #[.int .i64 n, .int .i64 10] w fun e w' => e = .returned (.string ⟨(Lib.itoa n).toArray⟩) ∧ Below w.heap.size w w' := by
  refine (Tryd.strconv_FormatInt_10 n (by omega) (by omega) w D).mono ?_
  rintro e w' ⟨rfl, k, os, rfl⟩
  exact ⟨rfl, Lib.below_grow _ w (Nat.le_refl _) k os⟩
theorem itoa_seven (f : Int) (h : 0 ≤ f) (h' : f ≤ 7) (w : World) : Calls Tryd.prog 31 #[.int .i64 f] w fun e w' => e = .returned (.string ⟨(Lib.itoa f).toArray⟩) ∧ w = w' := by
  have := Tryd.strconv_Itoa_small f.toNat (by omega) w
  rw [show ((f.toNat : Nat) : Int) = f by omega] at this
  refine this.mono ?_
  rintro e w' ⟨rfl, rfl⟩
  refine ⟨ret_s ?_, rfl⟩
  unfold Lib.itoa
  rw [if_neg (by omega)]
theorem itoa_len {n : Int} (h : 0 ≤ n) (h' : n ≤ 999999) : (Lib.itoa n).length ≤ 6 := by
  unfold Lib.itoa
  rw [if_neg (by omega), Lib.decDigits_length]
  rcases Nat.eq_zero_or_pos n.toNat with h0 | h0
  · rw [h0, Lib.nDigits_small (by omega)]; omega
  · have := Lib.numDigits_eq n.toNat h0 (by omega)
    have hb : ∀ u : Nat, u < 1000000 → Lib.nDigits u ≤ 6 := by
      intro u hu
      by_cases q1 : u < 10
      · rw [Lib.nDigits_small q1]; omega
      rw [Lib.nDigits_big (by omega)]
      by_cases q2 : u / 10 < 10
      · rw [Lib.nDigits_small q2]; omega
      rw [Lib.nDigits_big (by omega)]
      by_cases q3 : u / 10 / 10 < 10
      · rw [Lib.nDigits_small q3]; omega
      rw [Lib.nDigits_big (by omega)]
      by_cases q4 : u / 10 / 10 / 10 < 10
      · rw [Lib.nDigits_small q4]; omega
      rw [Lib.nDigits_big (by omega)]
      by_cases q5 : u / 10 / 10 / 10 / 10 < 10
      · rw [Lib.nDigits_small q5]; omega
      rw [Lib.nDigits_big (by omega)]
      by_cases q6 : u / 10 / 10 / 10 / 10 / 10 < 10
      · rw [Lib.nDigits_small q6]; omega
      · exfalso; omega
    exact hb _ (by omega)
set_option maxHeartbeats 1000000 in
theorem kindText_any (s k a f : Int) (x : Bool) (w : World) (D : Tab w) (ha : 0 ≤ a) (ha' : a ≤ 999999000) (hf : 0 ≤ f) (hf' : f ≤ 7) :
    Calls Tryd.prog 51 #[.agg #[.int .i64 s, .int .i64 k, .int .i64 a, .int .i64 f, .bool x]] w fun e w' => e = .returned (.string ⟨(kndT k a f).toArray⟩) ∧ Below w.heap.size w w' := by
  have c1 := fun w D => fmt_any (a / 1000) (by omega) (by omega) w D
  have c2 := fun w => itoa_seven f hf hf' w
  have l1 := itoa_len (n := a / 1000) (by omega) (by omega)
  have l2 := itoa_len (n := f) (by omega) (by omega)
  have D0 := cd_new w s k a f x 47
  have B0 : Below w.heap.size w (w.alloc (.cells #[.int .i64 s, .int .i64 k, .int .i64 a, .int .i64 f, .bool x] 47)) := (Below.refl _ _).alloc (Nat.le_refl _) _
  have T0 := D.below B0
  have hk : kndT k a f = if k = 1 then Lib.itoa (a / 1000) ++ [76] else if k = 2 then 75 :: Lib.itoa (a / 1000) else if k = 3 then 68 :: Lib.itoa f else [78, 84] := rfl
  rw [hk]
  clear hk
  generalize Lib.itoa (a / 1000) = p at *
  generalize Lib.itoa f = q at *
  have n1 : ¬ 9223372036854775807 < p.length + 1 := by omega
  have n2 : ¬ 9223372036854775807 < 1 + p.length := by omega
  have n3 : ¬ 9223372036854775807 < 1 + q.length := by omega
  by_cases k1 : k = 1
  · rw [if_pos k1]
    have t1 : (k == 1) = true := by simpa using k1
    clear k1
    go_enter Tryd.func51, Tryd.ntmps51
    go_wp2_with (fail)
    refine (c1 _ T0).mono ?_
    rintro e w1 ⟨rfl, hb⟩
    have B1 := below_step B0 hb B0.size
    obtain ⟨d0, d1, d2, d3, d4⟩ := D0.below hb (by simp)
    clear hb D0
    go_wp2
    go_ret
    exact ⟨ret_s (by rw [show (ByteArray.mk #[76]) = ⟨([76] : List UInt8).toArray⟩ from rfl, str_app]), B1⟩
  rw [if_neg k1]
  have t1 : (k == 1) = false := by simpa using k1
  by_cases k2 : k = 2
  · rw [if_pos k2]
    have t2 : (k == 2) = true := by simpa using k2
    clear k1 k2
    go_enter Tryd.func51, Tryd.ntmps51
    go_wp2_with (fail)
    refine (c1 _ T0).mono ?_
    rintro e w1 ⟨rfl, hb⟩
    have B1 := below_step B0 hb B0.size
    obtain ⟨d0, d1, d2, d3, d4⟩ := D0.below hb (by simp)
    clear hb D0
    go_wp2
    go_ret
    exact ⟨ret_s (by rw [show (ByteArray.mk #[75]) = ⟨([75] : List UInt8).toArray⟩ from rfl, str_app]; rfl), B1⟩
  rw [if_neg k2]
  have t2 : (k == 2) = false := by simpa using k2
  by_cases k3 : k = 3
  · rw [if_pos k3]
    have t3 : (k == 3) = true := by simpa using k3
    clear k1 k2 k3
    go_enter Tryd.func51, Tryd.ntmps51
    go_wp2_with (fail)
    refine (c1 _ T0).mono ?_
    rintro e w1 ⟨rfl, hb⟩
    have B1 := below_step B0 hb B0.size
    obtain ⟨d0, d1, d2, d3, d4⟩ := D0.below hb (by simp)
    clear hb D0
    go_wp2_with (fail)
    refine (c2 _).mono ?_
    rintro e w' ⟨rfl, rfl⟩
    go_wp2
    go_ret
    exact ⟨ret_s (by rw [show (ByteArray.mk #[68]) = ⟨([68] : List UInt8).toArray⟩ from rfl, str_app]; rfl), B1⟩
  rw [if_neg k3]
  have t3 : (k == 3) = false := by simpa using k3
  clear k1 k2 k3
  go_enter Tryd.func51, Tryd.ntmps51
  go_wp2_with (fail)
  refine (c1 _ T0).mono ?_
  rintro e w1 ⟨rfl, hb⟩
  have B1 := below_step B0 hb B0.size
  obtain ⟨d0, d1, d2, d3, d4⟩ := D0.below hb (by simp)
  clear hb D0
  go_wp2
  go_ret
  exact ⟨rfl, B1⟩
theorem kndT_len {k a f : Int} (ha : 0 ≤ a) (ha' : a ≤ 999999000) (hf : 0 ≤ f) (hf' : f ≤ 7) : (kndT k a f).length ≤ 7 := by
  have l1 := itoa_len (n := a / 1000) (by omega) (by omega)
  have l2 := itoa_len (n := f) (by omega) (by omega)
  unfold kndT
  split
  · simp; omega
  · split
    · simp; omega
    · split
      · simp; omega
      · simp
theorem txtC_bad {s k a f : Int} {x : Bool} (h : chkC s k a f ≠ 0) : txtC s k a f x = [] := by unfold txtC; rw [if_neg h]
theorem letter_of {s : Int} (h : 0 < s) (h7 : s ≤ 7) : (ByteArray.mk #[80, 81, 82, 83, 84, 85, 86]).extract (s.toNat - 1) s.toNat = ⟨(schT s).toArray⟩ := by
  rcases (show s = 1 ∨ s = 2 ∨ s = 3 ∨ s = 4 ∨ s = 5 ∨ s = 6 ∨ s = 7 by omega) with rfl | rfl | rfl | rfl | rfl | rfl | rfl <;> decide
set_option maxHeartbeats 1000000 in
theorem text_bad (s k a f : Int) (x : Bool) (w : World) (ha : -9223372036854775808 ≤ a) (ha' : a ≤ 9223372036854775807) (h : chkC s k a f ≠ 0) :
    Calls Tryd.prog 19 #[.agg #[.int .i64 s, .int .i64 k, .int .i64 a, .int .i64 f, .bool x]] w fun e w' => e = .returned (.string ⟨(txtC s k a f x).toArray⟩) ∧ Below w.heap.size w w' := by
  rw [txtC_bad h]
  have c1 := fun w => check_any s k a f x w ha ha'
  have B0 : Below w.heap.size w (w.alloc (.cells #[.int .i64 s, .int .i64 k, .int .i64 a, .int .i64 f, .bool x] 47)) := (Below.refl _ _).alloc (Nat.le_refl _) _
  have t1 : (chkC s k a f != 0) = true := by simpa using h
  clear h
  generalize chkC s k a f = v at *
  go_enter Tryd.func19, Tryd.ntmps19
  go_wp2_with (fail)
  refine (c1 _).mono ?_
  rintro e w1 ⟨rfl, hb⟩
  have B1 := below_step B0 hb B0.size
  go_wp2
  go_ret
  exact ⟨rfl, B1⟩
set_option maxHeartbeats 1000000 in
theorem text_ok (s k a f : Int) (x : Bool) (w : World) (D : Tab w) (h : chkC s k a f = 0) :
    Calls Tryd.prog 19 #[.agg #[.int .i64 s, .int .i64 k, .int .i64 a, .int .i64 f, .bool x]] w fun e w' => e = .returned (.string ⟨(txtC s k a f x).toArray⟩) ∧ Below w.heap.size w w' := by
  obtain ⟨s0, s7, hfit⟩ := chkC_zero h
  obtain ⟨k1, k4, a0, a9, _, f0, f7⟩ := fitB_bd hfit
  have c1 := fun w => check_c s k a f x 0 h w (by omega) (by omega)
  have c2 := fun w D => kindText_any s k a f x w D a0 a9 f0 f7
  have hl := kndT_len (k := k) a0 a9 f0 f7
  have ht : txtC s k a f x = schT s ++ kndT k a f ++ (if x = true then [88] else []) := by unfold txtC; rw [if_pos h]
  rw [ht]
  have D0 := cd_new w s k a f x 47
  have B0 : Below w.heap.size w (w.alloc (.cells #[.int .i64 s, .int .i64 k, .int .i64 a, .int .i64 f, .bool x] 47)) := (Below.refl _ _).alloc (Nat.le_refl _) _
  clear ht h hfit
  generalize kndT k a f = t at *
  by_cases h0 : 0 < s
  · have hL := letter_of h0 s7
    have hl1 : (schT s).length = 1 := by unfold schT; rw [if_pos h0]; rfl
    generalize schT s = S at *
    have HL := Lib.hid hL
    have HS := Lib.hid hl1
    clear hL hl1
    have m1 : 0 ≤ s - 1 := by omega
    have m2 : s - 1 ≤ s := by omega
    cases x
    all_goals
      go_enter Tryd.func19, Tryd.ntmps19
      go_wp2_with (fail)
      refine (c1 _).mono ?_
      rintro e w1 ⟨rfl, hb⟩
      have B1 := below_step B0 hb B0.size
      have D1 := D0.below hb (by simp)
      have T1 := D.below B1
      have z1 : w.heap.size < w1.heap.size := by have := hb.size; simp at this; omega
      clear hb D0
      obtain ⟨d0, d1, d2, d3, d4⟩ := id D1
      go_wp2_with (fail)
      refine (c2 _ T1).mono ?_
      rintro e w2 ⟨rfl, hb⟩
      have B2 := below_step B1 hb B1.size
      have D2 := D1.below hb z1
      clear hb D1 d0 d1 d2 d3 d4
      obtain ⟨d0, d1, d2, d3, d4⟩ := id D2
      go_wp2
      go_ret
      refine ⟨ret_s ?_, B2⟩
      first
        | (rw [HL.out, str_app S t]; done)
        | (rw [HL.out, str_app S t, show (ByteArray.mk #[88]) = ⟨([88] : List UInt8).toArray⟩ from rfl, str_app, List.append_assoc]; done)
  · have hS : schT s = [] := by unfold schT; rw [if_neg h0]
    have n1 : ¬ 9223372036854775807 < t.length + 1 := by omega
    rw [hS]
    clear hS
    cases x
    all_goals
      go_enter Tryd.func19, Tryd.ntmps19
      go_wp2_with (fail)
      refine (c1 _).mono ?_
      rintro e w1 ⟨rfl, hb⟩
      have B1 := below_step B0 hb B0.size
      have D1 := D0.below hb (by simp)
      have T1 := D.below B1
      have z1 : w.heap.size < w1.heap.size := by have := hb.size; simp at this; omega
      clear hb D0
      obtain ⟨d0, d1, d2, d3, d4⟩ := id D1
      go_wp2_with (fail)
      refine (c2 _ T1).mono ?_
      rintro e w2 ⟨rfl, hb⟩
      have B2 := below_step B1 hb B1.size
      have D2 := D1.below hb z1
      clear hb D1 d0 d1 d2 d3 d4
      obtain ⟨d0, d1, d2, d3, d4⟩ := id D2
      go_wp2
      go_ret
      first
        | exact ⟨rfl, B2⟩
        | exact ⟨ret_s (by rw [show (ByteArray.mk #[88]) = ⟨([88] : List UInt8).toArray⟩ from rfl, str_app]; rfl), B2⟩
        | exact ⟨ret_s (by rw [List.append_nil]; rfl), B2⟩
end Go.Proofs.YtoppipjbdakmeaaDoor
