/- What money.Parse answers of any text: all of it in one word. -/
import Derived.Test.YthknjpmhomjobaaGreatDoorParseB
namespace Go.Proofs.YthknjpmhomjobaaGreatDoor
open Go.RowKit
set_option linter.unusedVariables false

theorem parse_all (s T F A : ByteArray) (b f : Bool) (w : World) (hT : T.size ≤ 4611686018427387904) (hF : F.size ≤ 4611686018427387904) (hA : A.size ≤ 4611686018427387904) (hf0 : f = false → A.data.toList = [])
    (cp : ∀ w : World, Calls Tryz.prog 53 #[.string s, .string ⟨#[45]⟩] w fun e w' => e = .returned (.tuple #[.string T, .bool b]) ∧ w = w')
    (ct : ∀ w : World, Calls Tryz.prog 56 #[.string T, .string ⟨#[46]⟩] w fun e w' => e = .returned (.tuple #[.string F, .string A, .bool f]) ∧ ∃ k, w' = w.drewN k) :
    Calls Tryz.prog 41 #[.string s] w fun e w' => e = .returned (.tuple #[.int .i64 (pTail T.size b F.data.toList A.data.toList f).1, .int .i64 (pTail T.size b F.data.toList A.data.toList f).2]) ∧ Below w.heap.size w w' := by
  by_cases h : 20 < T.size
  · exact parse_long s T F A b f w hT hF hA cp ct h
  · have h := Nat.not_lt.1 h
    cases hw : wholeB F.data.toList
    · exact parse_whole s T F A b f w hT hF hA cp ct h hw
    · cases f
      · exact parse_main s T F A b false w hT hF hA cp ct h hw (fun e => by cases e) (by rw [hf0 rfl]; rfl)
      · cases hc : centsB A.data.toList
        · exact parse_cents s T F A b true w hT hF hA cp ct h hw rfl hc
        · exact parse_main s T F A b true w hT hF hA cp ct h hw (fun _ => hc) (cents_digits hc)
theorem cutfn_none (s : ByteArray) (w : World) (h : Lib.indexByte s.data.toList 46 = -1) :
    Calls Tryz.prog 56 #[.string s, .string ⟨#[46]⟩] w fun e w' => e = .returned (.tuple #[.string s, .string ⟨#[]⟩, .bool false]) ∧ ∃ k, w' = w.drewN k := by
  have ct := fun w => cut_none s w h
  clear h
  go_enter Tryz.func56, Tryz.ntmps56
  go_wp2_with (fail)
  refine (ct _).mono ?_
  rintro e w' ⟨rfl, k, rfl⟩
  go_wp2
  go_ret3
  exact ⟨rfl, _, rfl⟩
theorem cutfn_some (s : ByteArray) (i : Nat) (w : World) (h : Lib.indexByte s.data.toList 46 = i) (hi : i < s.size) (hs : s.size ≤ 4611686018427387904) :
    Calls Tryz.prog 56 #[.string s, .string ⟨#[46]⟩] w fun e w' => e = .returned (.tuple #[.string (s.extract 0 i), .string (s.extract (i + 1) s.size), .bool true]) ∧ ∃ k, w' = w.drewN k := by
  have ct := fun w => cut_some s i w h hi hs
  clear h hi hs
  go_enter Tryz.func56, Tryz.ntmps56
  go_wp2_with (fail)
  refine (ct _).mono ?_
  rintro e w' ⟨rfl, k, rfl⟩
  go_wp2
  go_ret3
  exact ⟨rfl, _, rfl⟩
/-- a text behind its sign, cut at its first point -/
def pCut (T : List UInt8) (b : Bool) : Int × Int :=
  if Lib.indexByte T 46 = -1 then pTail T.length b T [] false else pTail T.length b (T.take (Lib.indexByte T 46).toNat) (T.drop ((Lib.indexByte T 46).toNat + 1)) true
/-- a text -/
def parseP (l : List UInt8) : Int × Int := pCut (Lib.trimPrefix l [45]) (Lib.hasPrefix l [45])
theorem trim_len (l : List UInt8) : (Lib.trimPrefix l [45]).length ≤ l.length := by
  unfold Lib.trimPrefix
  split
  · rw [List.length_drop]; omega
  · omega
theorem index_cases : ∀ (l : List UInt8), Lib.indexByte l 46 = -1 ∨ ∃ i : Nat, Lib.indexByte l 46 = i ∧ i < l.length
  | [] => .inl rfl
  | c :: l => by
    unfold Lib.indexByte
    split
    · exact .inr ⟨0, rfl, Nat.succ_pos _⟩
    · rcases index_cases l with h | ⟨i, h, hi⟩
      · rw [h]; exact .inl rfl
      · rw [h]
        have : ((i : Int) == -1) = false := by rw [beq_eq_false_iff_ne]; omega
        rw [this]
        exact .inr ⟨i + 1, by simp, by rw [List.length_cons]; omega⟩
theorem parse_any (s : ByteArray) (w : World) (hs : s.size ≤ 4611686018427387904) :
    Calls Tryz.prog 41 #[.string s] w fun e w' => e = .returned (.tuple #[.int .i64 (parseP s.data.toList).1, .int .i64 (parseP s.data.toList).2]) ∧ Below w.heap.size w w' := by
  have cp : ∀ w : World, Calls Tryz.prog 53 #[.string s, .string ⟨#[45]⟩] w fun e w' => e = .returned (.tuple #[.string ⟨(Lib.trimPrefix s.data.toList [45]).toArray⟩, .bool (Lib.hasPrefix s.data.toList [45])]) ∧ w = w' :=
    fun w => (Tryz.strings_CutPrefix s ⟨#[45]⟩ w).mono fun _ _ h => ⟨h.1, h.2.symm⟩
  have hl := trim_len s.data.toList
  have hz : s.size = s.data.toList.length := Lib.size_eq s
  unfold parseP
  generalize Lib.hasPrefix s.data.toList [45] = b at *
  generalize Lib.trimPrefix s.data.toList [45] = T at *
  have hT : (ByteArray.mk T.toArray).size = T.length := Lib.size_eq _
  have hTl : (ByteArray.mk T.toArray).data.toList = T := by simp
  rcases index_cases T with h | ⟨i, h, hi⟩
  · have := parse_all s ⟨T.toArray⟩ ⟨T.toArray⟩ ⟨#[]⟩ b false w (by omega) (by omega) (by decide) (fun _ => rfl) cp (fun w => cutfn_none _ w (by rw [hTl]; exact h))
    rw [hT, hTl] at this
    unfold pCut
    rw [if_pos h]
    exact this
  · have e0 : ((ByteArray.mk T.toArray).extract 0 i).data.toList = T.take i := by
      rw [Lib.extract_data, hTl]; simp
    have e1 : ((ByteArray.mk T.toArray).extract (i + 1) (ByteArray.mk T.toArray).size).data.toList = T.drop (i + 1) := by
      rw [Lib.extract_to_end, hTl]
    have z0 := Lib.size_eq ((ByteArray.mk T.toArray).extract 0 i)
    have z1 := Lib.size_eq ((ByteArray.mk T.toArray).extract (i + 1) (ByteArray.mk T.toArray).size)
    rw [e0, List.length_take] at z0
    rw [e1, List.length_drop] at z1
    have := parse_all s ⟨T.toArray⟩ ((ByteArray.mk T.toArray).extract 0 i) ((ByteArray.mk T.toArray).extract (i + 1) (ByteArray.mk T.toArray).size) b true w (by omega) (by omega) (by omega) (fun e => by cases e) cp (fun w => cutfn_some _ i w (by rw [hTl]; exact h) (by omega) (by omega))
    rw [e0, e1, hT] at this
    unfold pCut
    have hne : ¬ Lib.indexByte T 46 = -1 := by rw [h]; omega
    rw [if_neg hne, h]
    exact this
theorem parse_one (w : World) : Calls Tryz.prog 41 #[.string ⟨#[45, 49, 46, 50, 53]⟩] w fun e w' => e = .returned (.tuple #[.int .i64 (-125), .int .i64 0]) ∧ Below w.heap.size w w' := by
  have h := parse_any ⟨#[45, 49, 46, 50, 53]⟩ w (by decide)
  have e : parseP (ByteArray.mk #[45, 49, 46, 50, 53]).data.toList = (-125, 0) := by kernel_rfl
  rw [e] at h
  exact h
end Go.Proofs.YthknjpmhomjobaaGreatDoor
