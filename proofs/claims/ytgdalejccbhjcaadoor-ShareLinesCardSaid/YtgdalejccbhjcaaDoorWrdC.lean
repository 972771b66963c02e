/- What the calls of word answer: whole, Int; the document's Int. -/
import Derived.Test.YtgdalejccbhjcaaDoorWrdA
import Derived.Lib.Atoi
import Derived.Lib.SmallJoins
import Derived.Test.YtgdalejccbhjcaaDoorCodD
import Derived.Test.YtgdalejccbhjcaaDoorCodM
namespace Go.Proofs.YtgdalejccbhjcaaDoor
open Go.RowKit
set_option linter.unusedVariables false
set_option linter.unusedSimpArgs false

/-- is it digits, one at least, and a 0 ahead of no other one? -/
def whoB (l : List UInt8) : Bool := !l.isEmpty && (decide (l.length = 1) || !(l.head? == some 48)) && l.all isDg
theorem whoB_of {s : ByteArray} (h0 : 0 < s.size) (hz : s.size = 1 ∨ s[0].toNat ≠ 48) : whoB s.data.toList = s.data.toList.all isDg := by
  have hl := data_len s
  have hh := head_ofQ s h0
  have he : s.data.toList.isEmpty = false := by rw [cons_of s h0]; rfl
  unfold whoB
  rw [hl, hh, he]
  rcases hz with hz | hz
  · rw [decide_eq_true hz]; simp
  · have : ¬ s[0] = 48 := fun e => hz (by rw [e]; rfl)
    have : (some s[0] == some 48) = false := by simpa using this
    rw [this]; simp
theorem whoB_zero {s : ByteArray} (h1 : 1 < s.size) (hz : s[0].toNat = 48) : whoB s.data.toList = false := by
  have hl := data_len s
  have hh := head_ofQ s (by omega)
  have e : s[0] = 48 := UInt8.toNat_inj.1 hz
  unfold whoB
  rw [hl, hh, e, decide_eq_false (by omega)]
  simp
theorem whoB_empty {s : ByteArray} (h : s.size = 0) : whoB s.data.toList = false := by
  have : s.data.toList = [] := List.length_eq_zero_iff.1 (by simp [h])
  rw [this]; rfl
/-- the text of a 0 -/
theorem zero_eq (s : ByteArray) (h0 : 0 < s.size) (h1 : s.size = 1) : (s[0].toNat = 48 → s = ⟨#[48]⟩) ∧ (s[0].toNat ≠ 48 → s.data.toList ≠ [48]) := by
  have hc := cons_of s h0
  have hl := data_len s
  have ht : s.data.toList.tail = [] := by
    apply List.length_eq_zero_iff.1
    rw [List.length_tail]; omega
  rw [ht] at hc
  refine ⟨fun e => ?_, fun e q => ?_⟩
  · have e' : s[0] = 48 := UInt8.toNat_inj.1 e
    rw [← data_self s, hc, e']
  · rw [hc] at q
    simp at q
    exact e (by rw [q]; rfl)
theorem not_zero (s : ByteArray) (h : s.data.toList ≠ [48]) : (s.toList == (⟨#[48]⟩ : ByteArray).toList) = false := by
  rw [Lib.toList_data, Lib.toList_data]
  simpa using h
theorem dec_num : ∀ (l : List UInt8) (x : Nat), l.all isDg = true → Lib.decFrom x l = some (numG (x : Int) l).toNat
  | [], x, _ => by simp [Lib.decFrom, numG]
  | c :: r, x, h => by
    simp only [List.all_cons, Bool.and_eq_true] at h
    obtain ⟨c1, c2⟩ := isDg_yes h.1
    have hd : Lib.digitVal c = some (c.toNat - 48) := by
      unfold Lib.digitVal; rw [if_pos (by omega)]
    have ih := dec_num r (x * 10 + (c.toNat - 48)) h.2
    simp only [Lib.decFrom, hd, numG]
    rw [ih]
    congr 3
    omega
theorem whoB_yes {l : List UInt8} (h : whoB l = true) : l ≠ [] ∧ l.all isDg = true := by
  unfold whoB at h
  simp only [Bool.and_eq_true, Bool.not_eq_true'] at h
  exact ⟨by intro e; subst e; simp at h, h.2⟩
/-- a word's whole number, and why it is none -/
def intD (l : List UInt8) : List UInt8 := if preB 45 l = true then l.tail else l
def intV (l : List UInt8) : Int × Int :=
  if whoB (intD l) = false ∨ (preB 45 l = true ∧ intD l = [48]) then (0, 5)
  else if 9 < (intD l).length then (0, 1)
  else (if preB 45 l = true then -(numG 0 (intD l)) else numG 0 (intD l), 0)
theorem atoi_of {l : List UInt8} (h : whoB (intD l) = true) : Lib.atoi l = some (if preB 45 l = true then -(numG 0 (intD l)) else numG 0 (intD l)) := by
  obtain ⟨hn, ha⟩ := whoB_yes h
  have hnn := (numG_bd (intD l) 0 ha (by omega)).1
  have h0 : (0 : Int) * 10 ^ (intD l).length = 0 := Int.zero_mul _
  rw [h0] at hnn
  have hd := dec_num (intD l) 0 ha
  have hdn : Lib.decNat (intD l) = some (numG 0 (intD l)).toNat := by
    unfold Lib.decNat
    rw [if_neg (by cases hi : intD l with
      | nil => exact absurd hi hn
      | cons => simp), hd]
    rfl
  cases hp : preB 45 l
  · have e : intD l = l := by unfold intD; rw [hp, if_neg (by simp)]
    rw [e] at hdn hn ha hnn ⊢
    cases l with
    | nil => exact absurd rfl hn
    | cons c r =>
      rw [preB_cons] at hp
      simp only [List.all_cons, Bool.and_eq_true] at ha
      obtain ⟨c1, c2⟩ := isDg_yes ha.1
      have h43 : (c == 43) = false := by
        rw [beq_eq_false_iff_ne]
        intro e; subst e; revert c1; decide
      show (if (c == 45) = true then (Lib.decNat r).map (fun (m : Nat) => -(m : Int)) else if (c == 43) = true then (Lib.decNat r).map (fun (m : Nat) => (m : Int)) else (Lib.decNat (c :: r)).map (fun (m : Nat) => (m : Int))) = _
      rw [hp, if_neg (by simp), h43, if_neg (by simp), hdn]
      simp
      omega
  · have e : intD l = l.tail := by unfold intD; rw [hp, if_pos rfl]
    rw [e] at hdn hnn ⊢
    have hl := preB_yes hp
    rw [hl]
    unfold Lib.atoi
    simp only [beq_self_eq_true, if_true, List.tail_cons]
    rw [hdn]
    simp
    omega
def IntP (l : List UInt8) (w : World) (e : Ending) (w' : World) : Prop := e = .returned (.tuple #[.int .i64 (intV l).1, .int .i64 (intV l).2]) ∧ Below w.heap.size w w'
theorem intP_mk {l : List UInt8} {w w' : World} {a b : Int} (h : intV l = (a, b)) (hb : Below w.heap.size w w') : IntP l w (.returned (.tuple #[.int .i64 a, .int .i64 b])) w' := by
  refine ⟨?_, hb⟩
  rw [h]
/-- two texts, as they are compared -/
theorem eq_texts (T : ByteArray) (m : List UInt8) (b : Bool) (h : (T.data.toList == m) = b) : (m == T.toList) = b ∧ (T.toList == m) = b := by
  rw [Lib.toList_data]
  refine ⟨?_, h⟩
  rw [← h, Bool.eq_iff_iff, beq_iff_eq, beq_iff_eq]
  exact eq_comm
end Go.Proofs.YtgdalejccbhjcaaDoor
