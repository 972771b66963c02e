/- What the calls of word answer: Name, Option. -/
import Derived.Test.YthndkplmhpbgdaaDoorWrdC
import Derived.RegionTactic
import Derived.Lib.IndexLaws
namespace Go.Proofs.YthndkplmhpbgdaaDoor
open Go.RowKit
set_option linter.unusedVariables false
set_option linter.unusedSimpArgs false

/-- may a byte stand behind a name's first one? -/
def namB (c : UInt8) : Bool := smlB c || isDg c || decide ((c.toNat : Int) = 45)
/-- is it a name? -/
def nameB (l : List UInt8) : Bool := !l.isEmpty && decide (l.length ≤ 16) && (match l with | [] => false | c :: _ => smlB c) && l.all namB
theorem nameB_empty {s : ByteArray} (h : s.size = 0) : nameB s.data.toList = false := by
  rw [List.length_eq_zero_iff.1 (show s.data.toList.length = 0 by simp [h])]; rfl
theorem nameB_long {s : ByteArray} (h : 16 < s.size) : nameB s.data.toList = false := by
  have hl := data_len s
  unfold nameB
  rw [hl, decide_eq_false (by omega)]
  simp
theorem nameB_of {s : ByteArray} (h0 : 0 < s.size) (h : s.size ≤ 16) : nameB s.data.toList = (smlB s[0] && s.data.toList.all namB) := by
  have hl := data_len s
  have hc := cons_of s h0
  unfold nameB
  rw [hl, decide_eq_true h]
  have h1 : s.data.toList.isEmpty = false := by rw [hc]; rfl
  have h2 : (match s.data.toList with | [] => false | c :: _ => smlB c) = smlB s[0] := by rw [hc]
  rw [h1, h2]
  simp
set_option maxHeartbeats 1000000 in
theorem name_any (s : ByteArray) (w : World) (hs : s.size ≤ 4611686018427387904) :
    Calls Tryd.prog 23 #[.string s] w fun e w' => e = .returned (.bool (nameB s.data.toList)) ∧ w = w' := by
  rcases Nat.eq_zero_or_pos s.size with h0 | h0
  · rw [nameB_empty h0]
    have te := toList_none s h0
    clear h0
    go_enter Tryd.func23, Tryd.ntmps23
    go_wp2
    go_ret
    exact ⟨rfl, rfl⟩
  have te := toList_some s h0
  have g0 : (0 : Int) < s.size := by omega
  by_cases h16 : 16 < s.size
  · rw [nameB_long h16]
    have g6 : (16 : Int) < s.size := by omega
    go_enter Tryd.func23, Tryd.ntmps23
    go_wp2
    go_ret
    exact ⟨rfl, rfl⟩
  have g6 : ¬ (16 : Int) < s.size := by omega
  have hN := nameB_of h0 (by omega)
  cases h1 : smlB s[0]
  · rw [hN, h1]
    have sm := fun w => small_b s[0] false h1 w
    clear hN h1
    go_enter Tryd.func23, Tryd.ntmps23
    go_wp2_with (fail)
    refine (sm _).mono ?_
    rintro e w' ⟨rfl, rfl⟩
    go_wp2
    go_ret
    exact ⟨rfl, rfl⟩
  · have HN := Lib.hid (show nameB s.data.toList = s.data.toList.all namB by rw [hN, h1]; rfl)
    have sm := fun w => small_b s[0] true h1 w
    clear hN h1
    go_enter Tryd.func23, Tryd.ntmps23
    go_wp2_with (fail)
    refine (sm _).mono ?_
    rintro e w' ⟨rfl, rfl⟩
    go_wp2
    clear sm
    go_loop [19] (fun i => ∃ j : Nat, j ≤ s.size ∧ i = .int .i64 j ∧ (s.data.toList.take j).all namB = true) (fun i => s.size - (intOf i).toNat)
    case atStart => exact ⟨0, Nat.zero_le _, rfl, by simp⟩
    case round =>
      obtain ⟨j, hj, rfl, ha⟩ := hrel
      by_cases hlt : j < s.size
      · have hta := all_take hlt ha
        have hbad : namB s[j] = false → nameB s.data.toList = false := fun e => HN.out.trans (all_bad hlt e)
        have HB := Lib.hid hbad
        have hdef : namB s[j] = (smlB s[j] || isDg s[j] || decide ((s[j].toNat : Int) = 45)) := rfl
        cases c1 : smlB s[j]
        · have s1 := fun w => small_b s[j] false c1 w
          cases c2 : isDg s[j]
          · have s2 := fun w => digit_b s[j] false c2 w
            by_cases c3 : (s[j].toNat : Int) = 45
            · have t : ((s[j].toNat : Int) != 45) = false := by simpa using c3
              have HA := Lib.hid (hta.trans (show namB s[j] = true by rw [hdef]; simp [c3]))
              clear ha hta hbad hdef c1 c2 c3
              go_wp2_with (fail)
              refine (s1 _).mono ?_
              rintro e w' ⟨rfl, rfl⟩
              go_wp2_with (fail)
              refine (s2 _).mono ?_
              rintro e w' ⟨rfl, rfl⟩
              go_wp2
              go_round
              case rel => exact ⟨j + 1, by omega, by go_num, HA.out⟩
              case measure => simp [intOf]; omega
            · have t : ((s[j].toNat : Int) != 45) = true := by simpa using c3
              have HF := Lib.hid (hbad (by rw [hdef, c1, c2, decide_eq_false c3]; rfl))
              clear ha hta hbad hdef c1 c2 c3
              go_wp2_with (fail)
              refine (s1 _).mono ?_
              rintro e w' ⟨rfl, rfl⟩
              go_wp2_with (fail)
              refine (s2 _).mono ?_
              rintro e w' ⟨rfl, rfl⟩
              go_wp2
              go_ret
              exact ⟨ret_b HF.out.symm, rfl⟩
          · have s2 := fun w => digit_b s[j] true c2 w
            have HA := Lib.hid (hta.trans (show namB s[j] = true by rw [hdef, c2]; simp))
            clear ha hta hbad hdef c1 c2
            go_wp2_with (fail)
            refine (s1 _).mono ?_
            rintro e w' ⟨rfl, rfl⟩
            go_wp2_with (fail)
            refine (s2 _).mono ?_
            rintro e w' ⟨rfl, rfl⟩
            go_wp2
            go_round
            case rel => exact ⟨j + 1, by omega, by go_num, HA.out⟩
            case measure => simp [intOf]; omega
        · have s1 := fun w => small_b s[j] true c1 w
          have HA := Lib.hid (hta.trans (show namB s[j] = true by rw [hdef, c1]; simp))
          clear ha hta hbad hdef c1
          go_wp2_with (fail)
          refine (s1 _).mono ?_
          rintro e w' ⟨rfl, rfl⟩
          go_wp2
          go_round
          case rel => exact ⟨j + 1, by omega, by go_num, HA.out⟩
          case measure => simp [intOf]; omega
      · obtain rfl : j = s.size := by omega
        rw [take_all] at ha
        have HA := Lib.hid (HN.out.trans ha)
        clear ha
        go_wp2
        go_ret
        exact ⟨ret_b HA.out.symm, rfl⟩
theorem name_b (s : ByteArray) (v : Bool) (h : nameB s.data.toList = v) (w : World) (hs : s.size ≤ 4611686018427387904) : Calls Tryd.prog 23 #[.string s] w fun e w' => e = .returned (.bool v) ∧ w = w' := by
  subst h; exact name_any s w hs
/-- where a byte stands first is within the text -/
theorem ix_lt {l : List UInt8} {c : UInt8} {i : Nat} (h : Lib.indexByte l c = i) : i < l.length := by
  obtain ⟨h1, _⟩ := Lib.indexByte_some h
  exact (List.getElem?_eq_some_iff.1 h1).1
set_option maxHeartbeats 1000000 in
theorem cutI_none (c : UInt8) (s : ByteArray) (w : World) (h : Lib.indexByte s.data.toList c = -1) :
    Calls Tryd.prog 55 #[.string s, .string ⟨#[c]⟩] w fun e w' => e = .returned (.tuple #[.string s, .string ⟨#[]⟩, .bool false]) ∧ ∃ k, w' = w.drewN k := by
  have ix := fun w => Tryd.stringslite_Index_one s c w
  rw [h] at ix
  clear h
  go_enter Tryd.func55, Tryd.ntmps55
  go_wp2_with (fail)
  refine (ix _).mono ?_
  rintro e w' ⟨rfl, rfl⟩
  go_wp2
  go_ret3
  exact ⟨rfl, 0, rfl⟩
set_option maxHeartbeats 1000000 in
theorem cutI_some (c : UInt8) (s : ByteArray) (i : Nat) (w : World) (h : Lib.indexByte s.data.toList c = i) (hi : i < s.size) (hs : s.size ≤ 4611686018427387904) :
    Calls Tryd.prog 55 #[.string s, .string ⟨#[c]⟩] w fun e w' => e = .returned (.tuple #[.string (s.extract 0 i), .string (s.extract (i + 1) s.size), .bool true]) ∧ ∃ k, w' = w.drewN k := by
  have ix := fun w => Tryd.stringslite_Index_one s c w
  rw [h] at ix
  clear h
  have c3 : (0 : Int) ≤ (i : Int) + 1 := by omega
  have c4 : (i : Int) + 1 ≤ s.size := by omega
  go_enter Tryd.func55, Tryd.ntmps55
  go_wp2_with (fail)
  refine (ix _).mono ?_
  rintro e w' ⟨rfl, rfl⟩
  go_wp2
  go_region
  go_wp2
  go_ret3
  exact ⟨rfl, 1, rfl⟩
theorem cut_one {s F A : ByteArray} {c : UInt8} {b : Bool} (h : ∀ w, Calls Tryd.prog 55 #[.string s, .string ⟨#[c]⟩] w fun e w' => e = .returned (.tuple #[.string F, .string A, .bool b]) ∧ ∃ k, w' = w.drewN k) (w : World) :
    Calls Tryd.prog 39 #[.string s, .string ⟨#[c]⟩] w fun e w' => e = .returned (.tuple #[.string F, .string A, .bool b]) ∧ ∃ k, w' = w.drewN k := by
  go_enter Tryd.func39, Tryd.ntmps39
  go_wp2_with (fail)
  refine (h _).mono ?_
  rintro e w' ⟨rfl, k, rfl⟩
  go_wp2
  go_ret3
  exact ⟨rfl, k, rfl⟩
/-- what Option answers, where there is no sign or nothing ahead of it -/
theorem opt_no (s : ByteArray) (w : World) (h : Lib.indexByte s.data.toList 61 < 1) (hs : s.size ≤ 281474976710656) :
    Calls Tryd.prog 22 #[.string s] w fun e w' => e = .returned (.tuple #[.string ⟨#[]⟩, .string ⟨#[]⟩, .bool false]) ∧ Below w.heap.size w w' := by
  have hg := Lib.indexByte_ge s.data.toList 61
  rcases (show Lib.indexByte s.data.toList 61 = -1 ∨ Lib.indexByte s.data.toList 61 = ((0 : Nat) : Int) by omega) with h1 | h1
  · have ct := cut_one (fun w => cutI_none 61 s w h1)
    clear h h1 hg
    go_enter Tryd.func22, Tryd.ntmps22
    go_wp2_with (fail)
    refine (ct _).mono ?_
    rintro e w' ⟨rfl, k, rfl⟩
    go_wp2
    go_ret3
    exact ⟨rfl, below_drewN (Below.refl _ _) _⟩
  · have hlt := ix_lt h1
    have ct := cut_one (fun w => cutI_some 61 s 0 w h1 (by simpa using hlt) (by omega))
    have e0 : s.extract 0 0 = ⟨#[]⟩ := by
      apply ByteArray.ext
      apply Array.ext'
      rw [ByteArray.data_extract]
      simp
    rw [e0] at ct
    generalize s.extract (0 + 1) s.size = A at *
    clear h h1 hg hlt e0
    go_enter Tryd.func22, Tryd.ntmps22
    go_wp2_with (fail)
    refine (ct _).mono ?_
    rintro e w' ⟨rfl, k, rfl⟩
    go_wp2
    go_ret3
    exact ⟨rfl, below_drewN (Below.refl _ _) _⟩
/-- what Option answers, where there is a sign behind something -/
theorem opt_yes (s : ByteArray) (i : Nat) (w : World) (h : Lib.indexByte s.data.toList 61 = i) (h1 : 1 ≤ i) (hs : s.size ≤ 281474976710656) :
    Calls Tryd.prog 22 #[.string s] w fun e w' => e = .returned (.tuple #[.string (s.extract 0 i), .string (s.extract (i + 1) s.size), .bool true]) ∧ Below w.heap.size w w' := by
  have hlt := ix_lt h
  rw [data_len] at hlt
  have ct := cut_one (fun w => cutI_some 61 s i w h hlt (by omega))
  have z1 : (s.extract 0 i).size = i := by rw [ByteArray.size_extract]; omega
  have z2 : (s.extract (i + 1) s.size).size ≤ s.size := by rw [ByteArray.size_extract]; omega
  have k1 := fun w => clone_any (s.extract 0 i) w (by omega)
  have k2 := fun w => clone_any (s.extract (i + 1) s.size) w (by omega)
  have te := toList_some (s.extract 0 i) (by omega)
  clear h z1 z2
  generalize s.extract 0 i = F at *
  generalize s.extract (i + 1) s.size = A at *
  go_enter Tryd.func22, Tryd.ntmps22
  go_wp2_with (fail)
  refine (ct _).mono ?_
  rintro e w' ⟨rfl, k, rfl⟩
  have B0 := below_drewN (Below.refl w.heap.size w) k
  generalize w.drewN k = w0 at *
  go_wp2_with (fail)
  refine (k1 _).mono ?_
  rintro e w1 ⟨rfl, hb⟩
  have B1 := below_step B0 hb B0.size
  go_wp2_with (fail)
  refine (k2 _).mono ?_
  rintro e w2 ⟨rfl, hb2⟩
  have B2 := below_step B1 hb2 B1.size
  go_wp2
  go_ret3
  exact ⟨rfl, B2⟩
end Go.Proofs.YthndkplmhpbgdaaDoor
