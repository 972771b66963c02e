/- What the pieces of money.Parse answer: digits, cents, whole, number. -/
import Derived.Test.YthknjpmhomjobaaGreatDoorPlain
import Derived.Test.YthknjpmhomjobaaGreatDoorProg
import Derived.WalkKit
import Derived.WalkSpells
import Derived.WalkLawsBesides
import Derived.Lib.Hide
import Derived.LoopTactic
import Derived.Lib.Strings
namespace Go.Proofs.YthknjpmhomjobaaGreatDoor
open Go.RowKit

def isDig (c : UInt8) : Bool := decide (48 ≤ (c.toNat : Int) ∧ (c.toNat : Int) ≤ 57)
theorem isDig_no {c : UInt8} (h : isDig c = false) : (c.toNat : Int) < 48 ∨ 57 < (c.toNat : Int) := by
  have : ¬ (48 ≤ (c.toNat : Int) ∧ (c.toNat : Int) ≤ 57) := by simpa only [isDig, decide_eq_false_iff_not] using h
  omega
theorem isDig_yes {c : UInt8} (h : isDig c = true) : 48 ≤ (c.toNat : Int) ∧ (c.toNat : Int) ≤ 57 := by simpa only [isDig, decide_eq_true_eq] using h
def digitsB (l : List UInt8) : Bool := l.all isDig
theorem byte_take (s : ByteArray) (k : Nat) (h : k < s.size) : s.data.toList.take (k + 1) = s.data.toList.take k ++ [s[k]] := by
  rw [List.take_succ_eq_append_getElem (by simpa using h)]; rfl
theorem digits_take {s : ByteArray} {k : Nat} (h : k < s.size) (ha : digitsB (s.data.toList.take k) = true) : digitsB (s.data.toList.take (k + 1)) = isDig s[k] := by
  unfold digitsB at *
  rw [byte_take s k h, List.all_append, ha]
  simp
theorem digits_bad {s : ByteArray} {k : Nat} (h : k < s.size) (hc : isDig s[k] = false) : digitsB s.data.toList = false := by
  unfold digitsB
  rw [List.all_eq_false]
  refine ⟨s[k], ?_, by simp [hc]⟩
  have : s.data.toList[k]? = some s[k] := by
    rw [List.getElem?_eq_getElem (by simpa using h)]; rfl
  exact List.mem_of_getElem? this

set_option maxHeartbeats 400000 in
theorem digits_any (s : ByteArray) (w : World) (hs : s.size ≤ 4611686018427387904) :
    Calls Tryz.prog 82 #[.string s] w fun e w' => e = .returned (.bool (digitsB s.data.toList)) ∧ w = w' := by
  go_enter Tryz.func82, Tryz.ntmps82
  go_wp2
  go_loop [6] (fun i => ∃ k : Nat, k ≤ s.size ∧ i = .int .i64 k ∧ digitsB (s.data.toList.take k) = true) (fun i => s.size - (intOf i).toNat)
  case atStart => exact ⟨0, Nat.zero_le _, rfl, by simp [digitsB]⟩
  case round =>
    obtain ⟨k, hk, rfl, ha⟩ := hrel
    by_cases hlt : k < s.size
    · have hn := digits_take hlt ha
      cases hc : isDig s[k]
      · have HF := Lib.hid (digits_bad hlt hc)
        have hb := isDig_no hc
        clear ha hn hc
        rcases hb with hb | hb
        · go_wp2
          go_ret
          exact ⟨ret_b HF.out.symm, rfl⟩
        · have hb2 : ¬ (s[k].toNat : Int) < 48 := by omega
          go_wp2
          go_ret
          exact ⟨ret_b HF.out.symm, rfl⟩
      · have HN := Lib.hid (hn.trans hc)
        obtain ⟨b1, b2⟩ := isDig_yes hc
        clear ha hn hc
        go_wp2
        go_round
        case rel => exact ⟨k + 1, by omega, by go_num, HN.out⟩
        case measure => simp [intOf]; omega
    · obtain rfl : k = s.size := by omega
      have e : s.data.toList.take s.size = s.data.toList := List.take_of_length_le (by simp)
      rw [e] at ha
      have HA := Lib.hid ha
      clear ha e
      go_wp2
      go_ret
      exact ⟨ret_b HA.out.symm, rfl⟩
theorem digits_b (s : ByteArray) (b : Bool) (hb : digitsB s.data.toList = b) (w : World) (hs : s.size ≤ 4611686018427387904) :
    Calls Tryz.prog 82 #[.string s] w fun e w' => e = .returned (.bool b) ∧ w = w' := by
  subst hb
  exact digits_any s w hs

def centsB (l : List UInt8) : Bool := decide (l.length = 2) && digitsB l
theorem cents_any (s : ByteArray) (w : World) (hs : s.size ≤ 4611686018427387904) :
    Calls Tryz.prog 58 #[.string s] w fun e w' => e = .returned (.bool (centsB s.data.toList)) ∧ w = w' := by
  have dg := fun w => digits_any s w hs
  have e : s.data.toList.length = s.size := by simp
  by_cases h : s.size = 2
  · have h2 : ((s.size : Int) == 2) = true := by simp; omega
    have HE : centsB s.data.toList = digitsB s.data.toList := by simp [centsB, h]
    rw [HE]
    generalize digitsB s.data.toList = b at *
    clear HE e h
    go_enter Tryz.func58, Tryz.ntmps58
    go_wp2_with (go_at_call 82; refine (dg _).mono ?_; rintro e w' ⟨rfl, rfl⟩)
    go_ret
    exact ⟨rfl, rfl⟩
  · have h2 : ((s.size : Int) == 2) = false := by simp; omega
    have HE : centsB s.data.toList = false := by simp [centsB, h]
    rw [HE]
    clear HE e h
    go_enter Tryz.func58, Tryz.ntmps58
    go_wp2
    go_ret
    exact ⟨rfl, rfl⟩
def wholeB (l : List UInt8) : Bool := !l.isEmpty && !(decide (1 < l.length) && l.head? == some 48) && digitsB l

theorem toList_some (s : ByteArray) (h : 0 < s.size) : ¬ s.toList = [] ∧ s.toList.isEmpty = false := by
  have e : s.toList.length = s.size := by rw [Lib.toList_data]; simp
  cases hl : s.toList with
  | nil => rw [hl] at e; simp at e; omega
  | cons a l => simp
theorem toList_none (s : ByteArray) (h : s.size = 0) : s.toList = [] := by
  have e : s.toList.length = s.size := by rw [Lib.toList_data]; simp
  exact List.length_eq_zero_iff.1 (by omega)
theorem head_of (s : ByteArray) (h : 0 < s.size) : s.data.toList.head? = some s[0] := by
  rw [List.head?_eq_getElem?, List.getElem?_eq_getElem (by simpa using h)]; rfl
set_option maxHeartbeats 400000 in
theorem whole_any (s : ByteArray) (w : World) (hs : s.size ≤ 4611686018427387904) :
    Calls Tryz.prog 57 #[.string s] w fun e w' => e = .returned (.bool (wholeB s.data.toList)) ∧ w = w' := by
  have dg := fun w => digits_any s w hs
  have hl : s.data.toList.length = s.size := by simp
  have hem : s.data.toList.isEmpty = decide (s.size = 0) := by
    cases hd : s.data.toList with
    | nil => rw [hd] at hl; simp at hl; simp [← hl]
    | cons a l =>
      rw [hd] at hl
      simp only [List.length_cons] at hl
      have : ¬ s.size = 0 := by omega
      rw [decide_eq_false this]
      rfl
  have hW : wholeB s.data.toList = (!decide (s.size = 0) && !(decide (1 < s.size) && s.data.toList.head? == some 48) && digitsB s.data.toList) := by
    unfold wholeB; rw [hl, hem]
  rcases Nat.eq_zero_or_pos s.size with h | h
  · have he := toList_none s h
    have HE : wholeB s.data.toList = false := by rw [hW]; simp [h]
    rw [HE]
    clear HE hW hem hl
    go_enter Tryz.func57, Tryz.ntmps57
    go_wp2
    go_ret
    exact ⟨rfl, rfl⟩
  · obtain ⟨he1, he2⟩ := toList_some s h
    have hh := head_of s h
    by_cases h1 : s.size = 1
    · have HE : wholeB s.data.toList = digitsB s.data.toList := by rw [hW]; simp [h1]
      rw [HE]
      generalize digitsB s.data.toList = b at *
      have h1' : ¬ 1 < s.size := by omega
      clear HE hW hem hl hh h1
      go_enter Tryz.func57, Tryz.ntmps57
      go_wp2_with (go_at_call 82; refine (dg _).mono ?_; rintro e w' ⟨rfl, rfl⟩)
      go_ret
      exact ⟨rfl, rfl⟩
    · have h2 : 1 < s.size := by omega
      by_cases h0 : s[0].toNat = 48
      · have e0 : s[0] = 48 := UInt8.toNat_inj.1 h0
        have HE : wholeB s.data.toList = false := by rw [hW, hh, e0]; simp [h2]
        have h3 : ((s[0].toNat : Int) == 48) = true := by simp; omega
        rw [HE]
        clear HE hW hem hl hh h1 h0 e0
        go_enter Tryz.func57, Tryz.ntmps57
        go_wp2
        go_ret
        exact ⟨rfl, rfl⟩
      · have e0 : ¬ s[0] = 48 := fun e => h0 (by rw [e]; rfl)
        have HE : wholeB s.data.toList = digitsB s.data.toList := by 
          have hz : ¬ s.size = 0 := by omega
          rw [hW, hh]; simp [e0, hz]
        have h3 : ((s[0].toNat : Int) == 48) = false := by simp; omega
        rw [HE]
        generalize digitsB s.data.toList = b at *
        clear HE hW hem hl hh h1 h0 e0
        go_enter Tryz.func57, Tryz.ntmps57
        go_wp2_with (go_at_call 82; refine (dg _).mono ?_; rintro e w' ⟨rfl, rfl⟩)
        go_ret
        exact ⟨rfl, rfl⟩

/-- the number that digits write; beyond the most it may be any that is -/
def numGo : Int → List UInt8 → Int
  | x, [] => x
  | x, c :: r => if 100000000000 < x then x else numGo (x * 10 + ((c.toNat : Int) - 48)) r
theorem drop_at (s : ByteArray) (k : Nat) (h : k < s.size) : s.data.toList.drop k = s[k] :: s.data.toList.drop (k + 1) := by
  rw [List.drop_eq_getElem_cons (by simpa using h)]; rfl
theorem dig_at {s : ByteArray} {k : Nat} (hd : digitsB s.data.toList = true) (h : k < s.size) : isDig s[k] = true := by
  cases hc : isDig s[k]
  · rw [digits_bad h hc] at hd; cases hd
  · rfl
set_option maxHeartbeats 400000 in
theorem number_any (s : ByteArray) (w : World) (hs : s.size ≤ 4611686018427387904) (hd : digitsB s.data.toList = true) :
    Calls Tryz.prog 59 #[.string s] w fun e w' => e = .returned (.int .i64 (numGo 0 s.data.toList)) ∧ w = w' := by
  have hdk := fun k h => dig_at (k := k) hd h
  clear hd
  go_enter Tryz.func59, Tryz.ntmps59
  go_wp2
  go_loop [3, 7] (fun a i => ∃ (k : Nat) (x : Int), k ≤ s.size ∧ i = .int .i64 k ∧ a = .int .i64 x ∧ 0 ≤ x ∧ x ≤ 1000000000009 ∧ numGo x (s.data.toList.drop k) = numGo 0 s.data.toList) (fun _ i => s.size - (intOf i).toNat)
  case atStart => exact ⟨0, 0, Nat.zero_le _, rfl, rfl, by omega, by omega, rfl⟩
  case round =>
    obtain ⟨k, x, hk, rfl, rfl, hx0, hx1, ha⟩ := hrel
    by_cases hlt : k < s.size
    · rw [drop_at s k hlt] at ha
      simp only [numGo] at ha
      obtain ⟨b1, b2⟩ := isDig_yes (hdk k hlt)
      clear hdk
      by_cases hg : 100000000000 < x
      · rw [if_pos hg] at ha
        have HA := Lib.hid ha
        clear ha
        go_wp2
        go_ret
        exact ⟨ret_i HA.out, rfl⟩
      · rw [if_neg hg] at ha
        have HA := Lib.hid ha
        clear ha
        go_wp2
        go_round
        case rel => exact ⟨k + 1, x * 10 + ((s[k].toNat : Int) - 48), by omega, by go_num, rfl, by omega, by omega, HA.out⟩
        case measure => simp [intOf]; omega
    · obtain rfl : k = s.size := by omega
      rw [List.drop_of_length_le (by simp)] at ha
      simp only [numGo] at ha
      have HA := Lib.hid ha
      clear ha hdk
      go_wp2
      go_ret
      exact ⟨ret_i HA.out, rfl⟩
end Go.Proofs.YthknjpmhomjobaaGreatDoor
