/- Merged: Wrd, WrdA, WrdB, WrdC, WrdD, WrdE, WrdF. -/
import Derived.Test.YtgadlfdioakodabDoorCodM
import Derived.Lib.Atoi
import Derived.Lib.SmallJoins
import Derived.RegionTactic
import Derived.Lib.IndexLaws
import Derived.Laws.AppendOwn
import Derived.LoopTactic
/- Bytes of words and lines: no program in sight. -/
namespace Go.Proofs.YtgadlfdioakodabDoor
open Go.RowKit
set_option linter.unusedVariables false
set_option linter.unusedSimpArgs false

/-- may a byte be in a word in quotes; in one without them -/
def shwB (c : UInt8) : Bool := decide (32 ≤ (c.toNat : Int) ∧ (c.toNat : Int) ≤ 126 ∧ (c.toNat : Int) ≠ 34)
def plnB (c : UInt8) : Bool := decide (33 ≤ (c.toNat : Int) ∧ (c.toNat : Int) ≤ 126 ∧ (c.toNat : Int) ≠ 34 ∧ (c.toNat : Int) ≠ 35)
theorem shwB_yes {c : UInt8} (h : shwB c = true) : 32 ≤ (c.toNat : Int) ∧ (c.toNat : Int) ≤ 126 ∧ (c.toNat : Int) ≠ 34 := by simpa only [shwB, decide_eq_true_eq] using h
theorem shwB_no {c : UInt8} (h : shwB c = false) : (c.toNat : Int) < 32 ∨ 126 < (c.toNat : Int) ∨ (c.toNat : Int) = 34 := by
  have : ¬ (32 ≤ (c.toNat : Int) ∧ (c.toNat : Int) ≤ 126 ∧ (c.toNat : Int) ≠ 34) := by simpa only [shwB, decide_eq_false_iff_not] using h
  omega
theorem plnB_yes {c : UInt8} (h : plnB c = true) : 33 ≤ (c.toNat : Int) ∧ (c.toNat : Int) ≤ 126 ∧ (c.toNat : Int) ≠ 34 ∧ (c.toNat : Int) ≠ 35 := by simpa only [plnB, decide_eq_true_eq] using h
theorem plnB_no {c : UInt8} (h : plnB c = false) : (c.toNat : Int) < 33 ∨ 126 < (c.toNat : Int) ∨ (c.toNat : Int) = 34 ∨ (c.toNat : Int) = 35 := by
  have : ¬ (33 ≤ (c.toNat : Int) ∧ (c.toNat : Int) ≤ 126 ∧ (c.toNat : Int) ≠ 34 ∧ (c.toNat : Int) ≠ 35) := by simpa only [plnB, decide_eq_false_iff_not] using h
  omega
theorem pln_shw {c : UInt8} (h : plnB c = true) : shwB c = true := by
  have := plnB_yes h
  simp only [shwB, decide_eq_true_eq]; omega
theorem shw_pln {c : UInt8} (h : shwB c = true) : plnB c = (!decide ((c.toNat : Int) = 32) && !decide ((c.toNat : Int) = 35)) := by
  have := shwB_yes h
  rw [Bool.eq_iff_iff]
  simp only [plnB, decide_eq_true_eq, Bool.and_eq_true, Bool.not_eq_true', decide_eq_false_iff_not]
  omega
/-- must a word stand in quotes? -/
def needB (l : List UInt8) : Bool := l.isEmpty || !l.all plnB
/-- a word as it stands in a line; none, if it may not -/
def quoV (l : List UInt8) : List UInt8 := if l.all shwB = true then (if needB l = true then 34 :: (l ++ [34]) else l) else []
def quoE (l : List UInt8) : Int := if l.all shwB = true then 0 else 5
end Go.Proofs.YtgadlfdioakodabDoor

/- What the calls of word answer that look at bytes: quotable, bare, ended, small, digit; the document's Shown and Plain; a text that is cloned; Quote. -/
namespace Go.Proofs.YtgadlfdioakodabDoor
open Go.RowKit
set_option linter.unusedVariables false
set_option linter.unusedSimpArgs false

theorem quotable_any (b : UInt8) (w : World) : Calls Tryd.prog 43 #[.int .u8 (b.toNat : Int)] w fun e w' => e = .returned (.bool (shwB b)) ∧ w = w' := by
  obtain ⟨u0, u9⟩ := u8_bd b
  have he : shwB b = decide (32 ≤ (b.toNat : Int) ∧ (b.toNat : Int) ≤ 126 ∧ (b.toNat : Int) ≠ 34) := rfl
  rw [he]
  generalize (b.toNat : Int) = c at *
  by_cases h1 : c < 32
  · rw [decide_eq_false (by omega)]
    have h1' : ¬ 32 ≤ c := by omega
    go_enter Tryd.func43, Tryd.ntmps43
    go_wp2
    go_ret
    exact ⟨rfl, rfl⟩
  have h1' : 32 ≤ c := by omega
  by_cases h2 : 126 < c
  · rw [decide_eq_false (by omega)]
    have h2' : ¬ c ≤ 126 := by omega
    go_enter Tryd.func43, Tryd.ntmps43
    go_wp2
    go_ret
    exact ⟨rfl, rfl⟩
  have h2' : c ≤ 126 := by omega
  by_cases h3 : c = 34
  · rw [decide_eq_false (by omega)]
    have t : (c != 34) = false := by simpa using h3
    clear h3 he
    go_enter Tryd.func43, Tryd.ntmps43
    go_wp2
    go_ret
    exact ⟨rfl, rfl⟩
  · rw [decide_eq_true (by omega)]
    have t : (c != 34) = true := by simpa using h3
    clear h3 he
    go_enter Tryd.func43, Tryd.ntmps43
    go_wp2
    go_ret
    exact ⟨rfl, rfl⟩
theorem bare_any (b : UInt8) (w : World) : Calls Tryd.prog 41 #[.int .u8 (b.toNat : Int)] w fun e w' => e = .returned (.bool (plnB b)) ∧ w = w' := by
  have qt := fun w => quotable_any b w
  obtain ⟨u0, u9⟩ := u8_bd b
  cases hs : shwB b
  · have hp : plnB b = false := by
      cases hq : plnB b
      · rfl
      · rw [pln_shw hq] at hs; cases hs
    rw [hp]
    rw [hs] at qt
    clear hs hp
    go_enter Tryd.func41, Tryd.ntmps41
    go_wp2_with (fail)
    refine (qt _).mono ?_
    rintro e w' ⟨rfl, rfl⟩
    go_wp2
    go_ret
    exact ⟨rfl, rfl⟩
  · rw [shw_pln hs]
    rw [hs] at qt
    clear hs
    generalize (b.toNat : Int) = c at *
    by_cases h1 : c = 32
    · have t : (c != 32) = false := by simpa using h1
      have e : (!decide (c = 32) && !decide (c = 35)) = false := by simp [h1]
      rw [e]
      clear h1 e
      go_enter Tryd.func41, Tryd.ntmps41
      go_wp2_with (fail)
      refine (qt _).mono ?_
      rintro e w' ⟨rfl, rfl⟩
      go_wp2
      go_ret
      exact ⟨rfl, rfl⟩
    have t : (c != 32) = true := by simpa using h1
    by_cases h2 : c = 35
    · have t2 : (c != 35) = false := by simpa using h2
      have e : (!decide (c = 32) && !decide (c = 35)) = false := by simp [h2]
      rw [e]
      clear h1 h2 e
      go_enter Tryd.func41, Tryd.ntmps41
      go_wp2_with (fail)
      refine (qt _).mono ?_
      rintro e w' ⟨rfl, rfl⟩
      go_wp2
      go_ret
      exact ⟨rfl, rfl⟩
    · have t2 : (c != 35) = true := by simpa using h2
      have e : (!decide (c = 32) && !decide (c = 35)) = true := by simp [h1, h2]
      rw [e]
      clear h1 h2 e
      go_enter Tryd.func41, Tryd.ntmps41
      go_wp2_with (fail)
      refine (qt _).mono ?_
      rintro e w' ⟨rfl, rfl⟩
      go_wp2
      go_ret
      exact ⟨rfl, rfl⟩
theorem quotable_b (b : UInt8) (v : Bool) (h : shwB b = v) (w : World) : Calls Tryd.prog 43 #[.int .u8 (b.toNat : Int)] w fun e w' => e = .returned (.bool v) ∧ w = w' := by
  subst h; exact quotable_any b w
theorem bare_b (b : UInt8) (v : Bool) (h : plnB b = v) (w : World) : Calls Tryd.prog 41 #[.int .u8 (b.toNat : Int)] w fun e w' => e = .returned (.bool v) ∧ w = w' := by
  subst h; exact bare_any b w
theorem clone_any (s : ByteArray) (w : World) (hs : s.size ≤ 281474976710656) : Calls Tryd.prog 36 #[.string s] w fun e w' => e = .returned (.string s) ∧ Below w.heap.size w w' := by
  have c := fun w => Tryd.stringslite_Clone s w hs
  go_enter Tryd.func36, Tryd.ntmps36
  go_wp2_with (fail)
  refine (c _).mono ?_
  rintro e w1 ⟨rfl, hb⟩
  go_wp2
  go_ret
  exact ⟨rfl, hb⟩
end Go.Proofs.YtgadlfdioakodabDoor

/- What the calls of word answer: Quote; the document's Plain and Shown. -/
namespace Go.Proofs.YtgadlfdioakodabDoor
open Go.RowKit
set_option linter.unusedVariables false
set_option linter.unusedSimpArgs false

/-- what Quote answers -/
def QuP (l : List UInt8) (w : World) (e : Ending) (w' : World) : Prop := e = .returned (.tuple #[.string ⟨(quoV l).toArray⟩, .int .i64 (quoE l)]) ∧ Below w.heap.size w w'
theorem quP_bad {l : List UInt8} {w w' : World} (h : l.all shwB = false) (hb : Below w.heap.size w w') : QuP l w (.returned (.tuple #[.string ⟨#[]⟩, .int .i64 5])) w' := by
  refine ⟨?_, hb⟩
  unfold quoV quoE
  rw [if_neg (by simp [h]), if_neg (by simp [h])]
theorem quP_need {l : List UInt8} {w w' : World} {s : ByteArray} (h : l.all shwB = true) (hn : needB l = true) (hs : s.data.toList = l) (hb : Below w.heap.size w w') : QuP l w (.returned (.tuple #[.string (⟨#[34]⟩ ++ s ++ ⟨#[34]⟩), .int .i64 0])) w' := by
  refine ⟨?_, hb⟩
  unfold quoV quoE
  rw [if_pos h, if_pos h, if_pos hn]
  have : (⟨#[34]⟩ ++ s ++ ⟨#[34]⟩ : ByteArray) = ⟨(34 :: (l ++ [34])).toArray⟩ := by
    apply ByteArray.ext
    subst hs
    apply Array.ext'
    simp [ByteArray.data_append]
  rw [this]
theorem quP_plain {l : List UInt8} {w w' : World} {s : ByteArray} (h : l.all shwB = true) (hn : needB l = false) (hs : s.data.toList = l) (hb : Below w.heap.size w w') : QuP l w (.returned (.tuple #[.string s, .int .i64 0])) w' := by
  refine ⟨?_, hb⟩
  unfold quoV quoE
  rw [if_pos h, if_pos h, if_neg (by simp [hn]), ← hs, data_self]
end Go.Proofs.YtgadlfdioakodabDoor

/- What the calls of word answer: whole, Int; the document's Int. -/
namespace Go.Proofs.YtgadlfdioakodabDoor
open Go.RowKit
set_option linter.unusedVariables false
set_option linter.unusedSimpArgs false

/-- is it digits, one at least, and a 0 ahead of no other one? -/
def whoB (l : List UInt8) : Bool := !l.isEmpty && (decide (l.length = 1) || !(l.head? == some 48)) && l.all isDg
theorem whoB_of {s : ByteArray} (h0 : 0 < s.size) (hz : s.size = 1 ∨ s[0].toNat ≠ 48) : whoB s.data.toList = s.data.toList.all isDg := by
  have hl := data_len s
  have hh := head_of s h0
  have he : s.data.toList.isEmpty = false := by rw [cons_of s h0]; rfl
  unfold whoB
  rw [hl, hh, he]
  rcases hz with hz | hz
  · rw [decide_eq_true hz]; simp
  · have : ¬ s[0] = 48 := fun e => hz (by rw [e]; rfl)
    have : (some s[0] == some 48) = false := by simpa using this
    rw [this]; simp
theorem whoB_zero {s : ByteArray} (h1 : 1 < s.size) (hz : s[0].toNat = 48) : whoB s.data.toList = false := by
  have hl := data_len s
  have hh := head_of s (by omega)
  have e : s[0] = 48 := UInt8.toNat_inj.1 hz
  unfold whoB
  rw [hl, hh, e, decide_eq_false (by omega)]
  simp
theorem whoB_empty {s : ByteArray} (h : s.size = 0) : whoB s.data.toList = false := by
  have : s.data.toList = [] := List.length_eq_zero_iff.1 (by simp [h])
  rw [this]; rfl
/-- the text of a 0 -/
theorem zero_eq (s : ByteArray) (h0 : 0 < s.size) (h1 : s.size = 1) : (s[0].toNat = 48 → s = ⟨#[48]⟩) ∧ (s[0].toNat ≠ 48 → s.data.toList ≠ [48]) := by
  have hc := cons_of s h0
  have hl := data_len s
  have ht : s.data.toList.tail = [] := by
    apply List.length_eq_zero_iff.1
    rw [List.length_tail]; omega
  rw [ht] at hc
  refine ⟨fun e => ?_, fun e q => ?_⟩
  · have e' : s[0] = 48 := UInt8.toNat_inj.1 e
    rw [← data_self s, hc, e']
  · rw [hc] at q
    simp at q
    exact e (by rw [q]; rfl)
theorem not_zero (s : ByteArray) (h : s.data.toList ≠ [48]) : (s.toList == (⟨#[48]⟩ : ByteArray).toList) = false := by
  rw [Lib.toList_data, Lib.toList_data]
  simpa using h
theorem dec_num : ∀ (l : List UInt8) (x : Nat), l.all isDg = true → Lib.decFrom x l = some (numG (x : Int) l).toNat
  | [], x, _ => by simp [Lib.decFrom, numG]
  | c :: r, x, h => by
    simp only [List.all_cons, Bool.and_eq_true] at h
    obtain ⟨c1, c2⟩ := isDg_yes h.1
    have hd : Lib.digitVal c = some (c.toNat - 48) := by
      unfold Lib.digitVal; rw [if_pos (by omega)]
    have ih := dec_num r (x * 10 + (c.toNat - 48)) h.2
    simp only [Lib.decFrom, hd, numG]
    rw [ih]
    congr 3
    omega
theorem whoB_yes {l : List UInt8} (h : whoB l = true) : l ≠ [] ∧ l.all isDg = true := by
  unfold whoB at h
  simp only [Bool.and_eq_true, Bool.not_eq_true'] at h
  exact ⟨by intro e; subst e; simp at h, h.2⟩
/-- a word's whole number, and why it is none -/
def intD (l : List UInt8) : List UInt8 := if preB 45 l = true then l.tail else l
def intV (l : List UInt8) : Int × Int :=
  if whoB (intD l) = false ∨ (preB 45 l = true ∧ intD l = [48]) then (0, 5)
  else if 9 < (intD l).length then (0, 1)
  else (if preB 45 l = true then -(numG 0 (intD l)) else numG 0 (intD l), 0)
theorem atoi_of {l : List UInt8} (h : whoB (intD l) = true) : Lib.atoi l = some (if preB 45 l = true then -(numG 0 (intD l)) else numG 0 (intD l)) := by
  obtain ⟨hn, ha⟩ := whoB_yes h
  have hnn := (numG_bd (intD l) 0 ha (by omega)).1
  have h0 : (0 : Int) * 10 ^ (intD l).length = 0 := Int.zero_mul _
  rw [h0] at hnn
  have hd := dec_num (intD l) 0 ha
  have hdn : Lib.decNat (intD l) = some (numG 0 (intD l)).toNat := by
    unfold Lib.decNat
    rw [if_neg (by cases hi : intD l with
      | nil => exact absurd hi hn
      | cons => simp), hd]
    rfl
  cases hp : preB 45 l
  · have e : intD l = l := by unfold intD; rw [hp, if_neg (by simp)]
    rw [e] at hdn hn ha hnn ⊢
    cases l with
    | nil => exact absurd rfl hn
    | cons c r =>
      rw [preB_cons] at hp
      simp only [List.all_cons, Bool.and_eq_true] at ha
      obtain ⟨c1, c2⟩ := isDg_yes ha.1
      have h43 : (c == 43) = false := by
        rw [beq_eq_false_iff_ne]
        intro e; subst e; revert c1; decide
      show (if (c == 45) = true then (Lib.decNat r).map (fun (m : Nat) => -(m : Int)) else if (c == 43) = true then (Lib.decNat r).map (fun (m : Nat) => (m : Int)) else (Lib.decNat (c :: r)).map (fun (m : Nat) => (m : Int))) = _
      rw [hp, if_neg (by simp), h43, if_neg (by simp), hdn]
      simp
      omega
  · have e : intD l = l.tail := by unfold intD; rw [hp, if_pos rfl]
    rw [e] at hdn hnn ⊢
    have hl := preB_yes hp
    rw [hl]
    unfold Lib.atoi
    simp only [beq_self_eq_true, if_true, List.tail_cons]
    rw [hdn]
    simp
    omega
def IntP (l : List UInt8) (w : World) (e : Ending) (w' : World) : Prop := e = .returned (.tuple #[.int .i64 (intV l).1, .int .i64 (intV l).2]) ∧ Below w.heap.size w w'
theorem intP_mk {l : List UInt8} {w w' : World} {a b : Int} (h : intV l = (a, b)) (hb : Below w.heap.size w w') : IntP l w (.returned (.tuple #[.int .i64 a, .int .i64 b])) w' := by
  refine ⟨?_, hb⟩
  rw [h]
/-- two texts, as they are compared -/
theorem eq_texts (T : ByteArray) (m : List UInt8) (b : Bool) (h : (T.data.toList == m) = b) : (m == T.toList) = b ∧ (T.toList == m) = b := by
  rw [Lib.toList_data]
  refine ⟨?_, h⟩
  rw [← h, Bool.eq_iff_iff, beq_iff_eq, beq_iff_eq]
  exact eq_comm
end Go.Proofs.YtgadlfdioakodabDoor

/- What the calls of word answer: Name, Option. -/
namespace Go.Proofs.YtgadlfdioakodabDoor
open Go.RowKit
set_option linter.unusedVariables false
set_option linter.unusedSimpArgs false

/-- where a byte stands first is within the text -/
theorem ix_lt {l : List UInt8} {c : UInt8} {i : Nat} (h : Lib.indexByte l c = i) : i < l.length := by
  obtain ⟨h1, _⟩ := Lib.indexByte_some h
  exact (List.getElem?_eq_some_iff.1 h1).1
set_option maxHeartbeats 1000000 in
theorem cutI_none (c : UInt8) (s : ByteArray) (w : World) (h : Lib.indexByte s.data.toList c = -1) :
    Calls Tryd.prog 72 #[.string s, .string ⟨#[c]⟩] w fun e w' => e = .returned (.tuple #[.string s, .string ⟨#[]⟩, .bool false]) ∧ ∃ k, w' = w.drewN k := by
  have ix := fun w => Tryd.stringslite_Index_one s c w
  rw [h] at ix
  clear h
  go_enter Tryd.func72, Tryd.ntmps72
  go_wp2_with (fail)
  refine (ix _).mono ?_
  rintro e w' ⟨rfl, rfl⟩
  go_wp2
  go_ret3
  exact ⟨rfl, 0, rfl⟩
set_option maxHeartbeats 1000000 in
theorem cutI_some (c : UInt8) (s : ByteArray) (i : Nat) (w : World) (h : Lib.indexByte s.data.toList c = i) (hi : i < s.size) (hs : s.size ≤ 4611686018427387904) :
    Calls Tryd.prog 72 #[.string s, .string ⟨#[c]⟩] w fun e w' => e = .returned (.tuple #[.string (s.extract 0 i), .string (s.extract (i + 1) s.size), .bool true]) ∧ ∃ k, w' = w.drewN k := by
  have ix := fun w => Tryd.stringslite_Index_one s c w
  rw [h] at ix
  clear h
  have c3 : (0 : Int) ≤ (i : Int) + 1 := by omega
  have c4 : (i : Int) + 1 ≤ s.size := by omega
  go_enter Tryd.func72, Tryd.ntmps72
  go_wp2_with (fail)
  refine (ix _).mono ?_
  rintro e w' ⟨rfl, rfl⟩
  go_wp2
  go_region
  go_wp2
  go_ret3
  exact ⟨rfl, 1, rfl⟩
theorem cut_one {s F A : ByteArray} {c : UInt8} {b : Bool} (h : ∀ w, Calls Tryd.prog 72 #[.string s, .string ⟨#[c]⟩] w fun e w' => e = .returned (.tuple #[.string F, .string A, .bool b]) ∧ ∃ k, w' = w.drewN k) (w : World) :
    Calls Tryd.prog 44 #[.string s, .string ⟨#[c]⟩] w fun e w' => e = .returned (.tuple #[.string F, .string A, .bool b]) ∧ ∃ k, w' = w.drewN k := by
  go_enter Tryd.func44, Tryd.ntmps44
  go_wp2_with (fail)
  refine (h _).mono ?_
  rintro e w' ⟨rfl, k, rfl⟩
  go_wp2
  go_ret3
  exact ⟨rfl, k, rfl⟩
end Go.Proofs.YtgadlfdioakodabDoor

/- Texts in a row of memory; what word.Lines answers. -/
namespace Go.Proofs.YtgadlfdioakodabDoor
open Go.RowKit
set_option linter.unusedVariables false
set_option linter.unusedSimpArgs false

/-- a text as a value -/
def sv (l : List UInt8) : Value := .string ⟨l.toArray⟩
/-- texts in a row of the call's own -/
def Rs (w : World) (B : Nat) (v : Value) (L : List (List UInt8)) : Prop := w.ownsRow B 9 1 v L.length (L.map sv)
theorem own_belowQ {w w' : World} {B : Nat} {e : TypeId} {size n : Nat} {v : Value} {xs : List Value} (h : w.ownsRow B e size v n xs) (hb : Below w.heap.size w w') : w'.ownsRow B e size v n xs := by
  refine ⟨h.1, ?_⟩
  rcases h.2 with h2 | ⟨g, cap, cur, hv, hg, hh, r⟩
  · exact .inl h2
  · have hlt : g < w.heap.size := by
      rcases Nat.lt_or_ge g w.heap.size with hlt | hge
      · exact hlt
      · rw [Array.getElem?_eq_none hge] at hh; cases hh
    exact .inr ⟨g, cap, cur, hv, hg, (hb.block g hlt).trans hh, r⟩
theorem rs_nil (w : World) (B : Nat) : Rs w B (.slice none 0 0) [] := ⟨rfl, .inl ⟨rfl, rfl⟩⟩
theorem rs_push {w : World} {B : Nat} {v : Value} {L M : List (List UInt8)} {m : List UInt8} {b : ByteArray} (h : w.ownsRow B 9 1 v (L.length + 1) (L.map sv ++ [.string b])) (hb : b = ⟨m.toArray⟩) (hM : M = L ++ [m]) : Rs w B v M := by
  subst hb hM
  unfold Rs
  rw [List.length_append, List.map_append]
  exact h
theorem infoS : (Tryd.prog.info? 9).map (fun i => (i.zero, i.size, i.bytes)) = some (some (.string ⟨#[]⟩), 1, 16) := by kernel_rfl
theorem cell_str_new (w : World) (x : Value) (t : TypeId) : ∀ j u, [x][j]? = some u → (w.alloc (.cells #[x] t)).cell? ((⟨w.heap.size, 0, none⟩ : Addr).add j) = some u := by
  intro j u hu
  have hj : j = 0 := by
    rcases Nat.lt_or_ge j 1 with h | h
    · omega
    · rw [List.getElem?_eq_none (by simp; omega)] at hu; cases hu
  subst hj
  simp at hu
  subst hu
  simp [Addr.add, World.cell?_alloc_new]
theorem ext_list (s : ByteArray) (i j : Nat) : s.extract i j = ⟨((s.data.toList.drop i).take (j - i)).toArray⟩ := by
  apply ByteArray.ext
  apply Array.ext'
  rw [ByteArray.data_extract]
  simp [List.take_drop]
/-- what a row's value is, and its cells -/
theorem rs_row {w : World} {B : Nat} {v : Value} {L : List (List UInt8)} (h : Rs w B v L) : ∃ A c, v = .slice A L.length c ∧ ∀ i, i < L.length → ∃ b, A = some ⟨b, 0, none⟩ ∧ B ≤ b ∧ w.cell? ⟨b, i, none⟩ = some (sv (L.getD i [])) := by
  obtain ⟨hl, ⟨rfl, hn⟩ | ⟨g, cap, cur, rfl, hg, hh, hc, _, hcs, ht⟩⟩ := h
  · exact ⟨none, 0, by rw [hn], fun i hi => by omega⟩
  · refine ⟨some ⟨g, 0, none⟩, cap, rfl, fun i hi => ⟨g, rfl, hg, ?_⟩⟩
    have hi2 : i < cur.size := by omega
    have e : cur.toList[i]? = (L.map sv)[i]? := by
      rw [← ht, List.getElem?_take, if_pos (by omega)]
    rw [List.getElem?_map] at e
    have hLi : L[i]? = some L[i] := List.getElem?_eq_getElem hi
    rw [hLi] at e
    have hcell : cur[i]? = some (sv L[i]) := by simpa using e
    have hd : L.getD i [] = L[i] := by simp [List.getD, hLi]
    rw [hd]
    simp [World.cell?, hh, hcell]
/-- a text's lines -/
def lnG : List (List UInt8) → List UInt8 → List UInt8 → List (List UInt8)
  | acc, cur, [] => if cur.isEmpty = true then acc else acc ++ [cur]
  | acc, cur, c :: r => if c.toNat = 10 then lnG (acc ++ [cur]) [] r else lnG acc (cur ++ [c]) r
def linV (l : List UInt8) : List (List UInt8) := lnG [] [] l
theorem slice_next {l : List UInt8} {f k : Nat} {c : UInt8} (hf : f ≤ k) (hk : l[k]? = some c) : (l.drop f).take (k + 1 - f) = (l.drop f).take (k - f) ++ [c] := by
  have : (l.drop f)[k - f]? = some c := by rw [List.getElem?_drop, show f + (k - f) = k by omega]; exact hk
  have hlt : k - f < (l.drop f).length := (List.getElem?_eq_some_iff.1 this).1
  rw [show k + 1 - f = (k - f) + 1 by omega, List.take_succ_eq_append_getElem hlt]
  congr 2
  exact (List.getElem?_eq_some_iff.1 this).2
theorem at_some (s : ByteArray) (k : Nat) (h : k < s.size) : s.data.toList[k]? = some s[k] := by
  rw [List.getElem?_eq_getElem (by simpa using h)]; rfl
end Go.Proofs.YtgadlfdioakodabDoor

/- What word.Join answers. -/
namespace Go.Proofs.YtgadlfdioakodabDoor
open Go.RowKit
set_option linter.unusedVariables false
set_option linter.unusedSimpArgs false

/-- words as a line: the line so far, whether nothing stands in it, the words that come -/
def joiG : List UInt8 → Bool → List (List UInt8) → List UInt8 × Int
  | line, _, [] => (line, 0)
  | line, z, l :: r => if l.all shwB = true then (if 512 < (line ++ (if z = true then [] else [32]) ++ quoV l).length then ([], 2) else joiG (line ++ (if z = true then [] else [32]) ++ quoV l) false r) else ([], 5)
def joiV (L : List (List UInt8)) : List UInt8 × Int := if 32 < L.length then ([], 2) else joiG [] true L
theorem str_appQ (l m : List UInt8) : (ByteArray.mk l.toArray) ++ (ByteArray.mk m.toArray) = ByteArray.mk (l ++ m).toArray := by
  apply ByteArray.ext
  simp [ByteArray.data_append]
theorem quo_len {l : List UInt8} : (quoV l).length ≤ l.length + 2 := by
  unfold quoV
  split
  · split <;> simp
  · simp
def JoP (L : List (List UInt8)) (w : World) (e : Ending) (w' : World) : Prop := e = .returned (.tuple #[.string ⟨(joiV L).1.toArray⟩, .int .i64 (joiV L).2]) ∧ Below w.heap.size w w'
theorem joP_mk {L : List (List UInt8)} {w w' : World} {a : List UInt8} {b : Int} {t : ByteArray} (h : joiV L = (a, b)) (ht : t = ⟨a.toArray⟩) (hb : Below w.heap.size w w') : JoP L w (.returned (.tuple #[.string t, .int .i64 b])) w' := by
  refine ⟨?_, hb⟩
  rw [h, ht]
theorem drop_getD (L : List (List UInt8)) (i : Nat) (h : i < L.length) : L.drop i = L.getD i [] :: L.drop (i + 1) := by
  rw [List.drop_eq_getElem_cons h]
  simp [List.getD, h]
end Go.Proofs.YtgadlfdioakodabDoor
