/- What the calls of code answer that read: kindOf, Parse. -/
import Derived.Test.YtoppipjbdakmeaaDoorCodC
namespace Go.Proofs.YtoppipjbdakmeaaDoor
open Go.RowKit
set_option linter.unusedVariables false
set_option linter.unusedSimpArgs false

theorem has_suf (c : UInt8) (l : List UInt8) : Lib.hasSuffix l [c] = sufB c l := by
  unfold Lib.hasSuffix sufB
  rcases List.eq_nil_or_concat l with rfl | ⟨r, d, rfl⟩
  · rfl
  · rw [List.concat_eq_append, List.getLast?_append]
    simp only [List.isSuffixOf, List.reverse_append, List.reverse_cons, List.reverse_nil, List.nil_append, List.singleton_append, List.isPrefixOf, List.cons_append]
    rw [Bool.eq_iff_iff]
    simp
    exact eq_comm
theorem trim_suf (c : UInt8) (l : List UInt8) : Lib.trimSuffix l [c] = if sufB c l = true then l.dropLast else l := by
  unfold Lib.trimSuffix
  rw [has_suf]
  split
  · simp [List.dropLast_eq_take]
  · rfl
theorem has_pre (c : UInt8) (l : List UInt8) : Lib.hasPrefix l [c] = preB c l := by
  unfold Lib.hasPrefix preB
  cases l with
  | nil => rfl
  | cons d r =>
    rw [Bool.eq_iff_iff]
    simp [List.isPrefixOf]
    exact eq_comm
theorem trim_pre (c : UInt8) (l : List UInt8) : Lib.trimPrefix l [c] = if preB c l = true then l.tail else l := by
  unfold Lib.trimPrefix
  rw [has_pre]
  split
  · simp
  · rfl
/-- a text without what was cut off -/
def Sh (T s : ByteArray) (l : List UInt8) : Prop := T.data.toList = l ∧ T.size ≤ s.size
theorem cutS_any (c : UInt8) (s : ByteArray) (w : World) (hs : s.size ≤ 4611686018427387904) (b : Bool) (hb : sufB c s.data.toList = b) :
    ∃ T : ByteArray, Sh T s (if b = true then s.data.toList.dropLast else s.data.toList) ∧ ∀ w : World, Calls Tryd.prog 47 #[.string s, .string ⟨#[c]⟩] w fun e w' => e = .returned (.tuple #[.string T, .bool b]) ∧ w = w' := by
  refine ⟨⟨(Lib.trimSuffix s.data.toList [c]).toArray⟩, ⟨by rw [trim_suf, hb], ?_⟩, fun w => ?_⟩
  · have := Lib.trimSuffix_le s.data.toList [c]
    rw [← data_len s]
    exact this
  · refine (Tryd.strings_CutSuffix s ⟨#[c]⟩ w (by omega)).mono ?_
    rintro e w' ⟨rfl, rfl⟩
    refine ⟨?_, rfl⟩
    rw [show (⟨#[c]⟩ : ByteArray).data.toList = [c] from rfl, has_suf, hb]
theorem trimP_le (s p : List UInt8) : (Lib.trimPrefix s p).length ≤ s.length := by
  unfold Lib.trimPrefix
  split
  · simp
  · exact Nat.le_refl _
theorem cutP_any (c : UInt8) (s : ByteArray) (b : Bool) (hb : preB c s.data.toList = b) :
    ∃ T : ByteArray, Sh T s (if b = true then s.data.toList.tail else s.data.toList) ∧ ∀ w : World, Calls Tryd.prog 73 #[.string s, .string ⟨#[c]⟩] w fun e w' => e = .returned (.tuple #[.string T, .bool b]) ∧ w = w' := by
  refine ⟨⟨(Lib.trimPrefix s.data.toList [c]).toArray⟩, ⟨by rw [trim_pre, hb], ?_⟩, fun w => ?_⟩
  · have := trimP_le s.data.toList [c]
    rw [← data_len s]
    exact this
  · refine (Tryd.strings_CutPrefix s ⟨#[c]⟩ w).mono ?_
    rintro e w' ⟨rfl, rfl⟩
    refine ⟨?_, rfl⟩
    rw [show (⟨#[c]⟩ : ByteArray).data.toList = [c] from rfl, has_pre, hb]
def KndP (l : List UInt8) (w : World) (e : Ending) (w' : World) : Prop := e = .returned (.tuple #[.int .i64 (kndV l).1, .int .i64 (kndV l).2.1, .bool (kndV l).2.2]) ∧ w = w'
theorem kndP_mk {l : List UInt8} {w : World} {a b : Int} {c : Bool} (h : kndV l = (a, b, c)) : KndP l w (.returned (.tuple #[.int .i64 a, .int .i64 b, .bool c])) w := by
  refine ⟨?_, rfl⟩
  rw [h]
theorem num_v (k : Int) (T : ByteArray) (l : List UInt8) (h : T.data.toList = l) (hs : T.size ≤ 4611686018427387904) (a b : Int) (c : Bool) (hv : numV k l = (a, b, c)) (w : World) :
    Calls Tryd.prog 72 #[.int .i64 k, .string T] w fun e w' => e = .returned (.tuple #[.int .i64 a, .int .i64 b, .bool c]) ∧ w = w' := by
  refine (numbered_any k T w hs).mono ?_
  rintro e w' ⟨rfl, rfl⟩
  refine ⟨?_, rfl⟩
  rw [h, hv]
theorem kndV_L {l : List UInt8} (h : sufB 76 l = true) : kndV l = numV 1 l.dropLast := by unfold kndV; rw [if_pos h]
theorem kndV_K {l : List UInt8} (h : sufB 76 l = false) (h2 : preB 75 l = true) : kndV l = numV 2 l.tail := by unfold kndV; rw [if_neg (by simp [h]), if_pos h2]
theorem kndV_D {l : List UInt8} (h : sufB 76 l = false) (h2 : preB 75 l = false) (h3 : preB 68 l = true) : kndV l = numV 3 l.tail := by unfold kndV; rw [if_neg (by simp [h]), if_neg (by simp [h2]), if_pos h3]
theorem kndV_N {l : List UInt8} (h : sufB 76 l = false) (h2 : preB 75 l = false) (h3 : preB 68 l = false) : kndV l = (4, 0, l == [78, 84]) := by unfold kndV; rw [if_neg (by simp [h]), if_neg (by simp [h2]), if_neg (by simp [h3])]
set_option maxHeartbeats 1000000 in
theorem kindOf_any (s : ByteArray) (w : World) (hs : s.size ≤ 4611686018427387904) :
    Calls Tryd.prog 48 #[.string s] w (KndP s.data.toList w) := by
  cases h1 : sufB 76 s.data.toList
  · obtain ⟨T1, hT1, c1⟩ := cutS_any 76 s w hs false h1
    cases h2 : preB 75 s.data.toList
    · obtain ⟨T2, hT2, c2⟩ := cutP_any 75 s false h2
      cases h3 : preB 68 s.data.toList
      · obtain ⟨T3, hT3, c3⟩ := cutP_any 68 s false h3
        have HE := Lib.hid (kndV_N h1 h2 h3)
        have HS := Lib.hid (Lib.toList_data s)
        clear h1 h2 h3 hT1 hT2 hT3
        go_enter Tryd.func48, Tryd.ntmps48
        go_wp2_with (fail)
        refine (c1 _).mono ?_
        rintro e w' ⟨rfl, rfl⟩
        go_wp2_with (fail)
        refine (c2 _).mono ?_
        rintro e w' ⟨rfl, rfl⟩
        go_wp2_with (fail)
        refine (c3 _).mono ?_
        rintro e w' ⟨rfl, rfl⟩
        go_wp2
        go_ret3
        exact kndP_mk (by rw [HE.out, HS.out])
      · obtain ⟨T3, hT3, c3⟩ := cutP_any 68 s true h3
        obtain ⟨⟨a, b, c⟩, hv⟩ : ∃ v, numV 3 s.data.toList.tail = v := ⟨_, rfl⟩
        have cn := num_v 3 T3 _ hT3.1 (by have := hT3.2; omega) a b c hv
        have HE := Lib.hid ((kndV_D h1 h2 h3).trans hv)
        clear h1 h2 h3 hT1 hT2 hT3 hv
        go_enter Tryd.func48, Tryd.ntmps48
        go_wp2_with (fail)
        refine (c1 _).mono ?_
        rintro e w' ⟨rfl, rfl⟩
        go_wp2_with (fail)
        refine (c2 _).mono ?_
        rintro e w' ⟨rfl, rfl⟩
        go_wp2_with (fail)
        refine (c3 _).mono ?_
        rintro e w' ⟨rfl, rfl⟩
        go_wp2_with (fail)
        refine (cn _).mono ?_
        rintro e w' ⟨rfl, rfl⟩
        go_wp2
        go_ret3
        exact kndP_mk HE.out
    · obtain ⟨T2, hT2, c2⟩ := cutP_any 75 s true h2
      obtain ⟨⟨a, b, c⟩, hv⟩ : ∃ v, numV 2 s.data.toList.tail = v := ⟨_, rfl⟩
      have cn := num_v 2 T2 _ hT2.1 (by have := hT2.2; omega) a b c hv
      have HE := Lib.hid ((kndV_K h1 h2).trans hv)
      clear h1 h2 hT1 hT2 hv
      go_enter Tryd.func48, Tryd.ntmps48
      go_wp2_with (fail)
      refine (c1 _).mono ?_
      rintro e w' ⟨rfl, rfl⟩
      go_wp2_with (fail)
      refine (c2 _).mono ?_
      rintro e w' ⟨rfl, rfl⟩
      go_wp2_with (fail)
      refine (cn _).mono ?_
      rintro e w' ⟨rfl, rfl⟩
      go_wp2
      go_ret3
      exact kndP_mk HE.out
  · obtain ⟨T1, hT1, c1⟩ := cutS_any 76 s w hs true h1
    obtain ⟨⟨a, b, c⟩, hv⟩ : ∃ v, numV 1 s.data.toList.dropLast = v := ⟨_, rfl⟩
    have cn := num_v 1 T1 _ hT1.1 (by have := hT1.2; omega) a b c hv
    have HE := Lib.hid ((kndV_L h1).trans hv)
    clear h1 hT1 hv
    go_enter Tryd.func48, Tryd.ntmps48
    go_wp2_with (fail)
    refine (c1 _).mono ?_
    rintro e w' ⟨rfl, rfl⟩
    go_wp2_with (fail)
    refine (cn _).mono ?_
    rintro e w' ⟨rfl, rfl⟩
    go_wp2
    go_ret3
    exact kndP_mk HE.out
theorem kind_v (T : ByteArray) (l : List UInt8) (h : T.data.toList = l) (hs : T.size ≤ 4611686018427387904) (a b : Int) (c : Bool) (hv : kndV l = (a, b, c)) (w : World) :
    Calls Tryd.prog 48 #[.string T] w fun e w' => e = .returned (.tuple #[.int .i64 a, .int .i64 b, .bool c]) ∧ w = w' := by
  refine (kindOf_any T w hs).mono ?_
  rintro e w' ⟨rfl, rfl⟩
  refine ⟨?_, rfl⟩
  rw [h, hv]
end Go.Proofs.YtoppipjbdakmeaaDoor
