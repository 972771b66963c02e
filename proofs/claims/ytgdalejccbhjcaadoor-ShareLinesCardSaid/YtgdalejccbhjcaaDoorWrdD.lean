/- What the calls of word answer: Name, Option. -/
import Derived.Test.YtgdalejccbhjcaaDoorWrdC
import Derived.RegionTactic
import Derived.Lib.IndexLaws
namespace Go.Proofs.YtgdalejccbhjcaaDoor
open Go.RowKit
set_option linter.unusedVariables false
set_option linter.unusedSimpArgs false

/-- where a byte stands first is within the text -/
theorem ix_lt {l : List UInt8} {c : UInt8} {i : Nat} (h : Lib.indexByte l c = i) : i < l.length := by
  obtain ⟨h1, _⟩ := Lib.indexByte_some h
  exact (List.getElem?_eq_some_iff.1 h1).1
set_option maxHeartbeats 1000000 in
theorem cutI_none (c : UInt8) (s : ByteArray) (w : World) (h : Lib.indexByte s.data.toList c = -1) :
    Calls Tryd.prog 67 #[.string s, .string ⟨#[c]⟩] w fun e w' => e = .returned (.tuple #[.string s, .string ⟨#[]⟩, .bool false]) ∧ ∃ k, w' = w.drewN k := by
  have ix := fun w => Tryd.stringslite_Index_one s c w
  rw [h] at ix
  clear h
  go_enter Tryd.func67, Tryd.ntmps67
  go_wp2_with (fail)
  refine (ix _).mono ?_
  rintro e w' ⟨rfl, rfl⟩
  go_wp2
  go_ret3
  exact ⟨rfl, 0, rfl⟩
set_option maxHeartbeats 1000000 in
theorem cutI_some (c : UInt8) (s : ByteArray) (i : Nat) (w : World) (h : Lib.indexByte s.data.toList c = i) (hi : i < s.size) (hs : s.size ≤ 4611686018427387904) :
    Calls Tryd.prog 67 #[.string s, .string ⟨#[c]⟩] w fun e w' => e = .returned (.tuple #[.string (s.extract 0 i), .string (s.extract (i + 1) s.size), .bool true]) ∧ ∃ k, w' = w.drewN k := by
  have ix := fun w => Tryd.stringslite_Index_one s c w
  rw [h] at ix
  clear h
  have c3 : (0 : Int) ≤ (i : Int) + 1 := by omega
  have c4 : (i : Int) + 1 ≤ s.size := by omega
  go_enter Tryd.func67, Tryd.ntmps67
  go_wp2_with (fail)
  refine (ix _).mono ?_
  rintro e w' ⟨rfl, rfl⟩
  go_wp2
  go_region
  go_wp2
  go_ret3
  exact ⟨rfl, 1, rfl⟩
theorem cut_one {s F A : ByteArray} {c : UInt8} {b : Bool} (h : ∀ w, Calls Tryd.prog 67 #[.string s, .string ⟨#[c]⟩] w fun e w' => e = .returned (.tuple #[.string F, .string A, .bool b]) ∧ ∃ k, w' = w.drewN k) (w : World) :
    Calls Tryd.prog 38 #[.string s, .string ⟨#[c]⟩] w fun e w' => e = .returned (.tuple #[.string F, .string A, .bool b]) ∧ ∃ k, w' = w.drewN k := by
  go_enter Tryd.func38, Tryd.ntmps38
  go_wp2_with (fail)
  refine (h _).mono ?_
  rintro e w' ⟨rfl, k, rfl⟩
  go_wp2
  go_ret3
  exact ⟨rfl, k, rfl⟩
end Go.Proofs.YtgdalejccbhjcaaDoor
