/- What money.Parse answers of any text. -/
import Derived.Test.YthknjpmhomjobaaGreatDoorParseA
import Derived.Test.YthknjpmhomjobaaGreatDoorShelf
import Derived.Test.YthknjpmhomjobaaGreatDoorMoneyA
import Derived.RegionTactic
import Derived.Lib.IndexLaws
import Derived.Deep.DeepCutAuto
namespace Go.Proofs.YthknjpmhomjobaaGreatDoor
open Go.RowKit
set_option linter.unusedVariables false

set_option maxHeartbeats 1000000 in
theorem cut_none (s : ByteArray) (w : World) (h : Lib.indexByte s.data.toList 46 = -1) :
    Calls Tryz.prog 81 #[.string s, .string ⟨#[46]⟩] w fun e w' => e = .returned (.tuple #[.string s, .string ⟨#[]⟩, .bool false]) ∧ ∃ k, w' = w.drewN k := by
  have ix := fun w => Tryz.stringslite_Index_one s 46 w
  rw [h] at ix
  go_enter Tryz.func81, Tryz.ntmps81
  go_wp2_with (go_at_call 101; refine (ix _).mono ?_; rintro e w' ⟨rfl, rfl⟩)
  go_ret3
  exact ⟨rfl, 0, rfl⟩
set_option maxHeartbeats 1000000 in
theorem cut_some (s : ByteArray) (i : Nat) (w : World) (h : Lib.indexByte s.data.toList 46 = i) (hi : i < s.size) (hs : s.size ≤ 4611686018427387904) :
    Calls Tryz.prog 81 #[.string s, .string ⟨#[46]⟩] w fun e w' => e = .returned (.tuple #[.string (s.extract 0 i), .string (s.extract (i + 1) s.size), .bool true]) ∧ ∃ k, w' = w.drewN k := by
  have ix := fun w => Tryz.stringslite_Index_one s 46 w
  rw [h] at ix
  have c3 : (0 : Int) ≤ (i : Int) + 1 := by omega
  have c4 : (i : Int) + 1 ≤ s.size := by omega
  go_enter Tryz.func81, Tryz.ntmps81
  go_wp2_with (go_at_call 101; refine (ix _).mono ?_; rintro e w' ⟨rfl, rfl⟩)
  go_region
  go_wp2
  go_ret3
  exact ⟨rfl, 1, rfl⟩

theorem digits_cons {c : UInt8} {l : List UInt8} (h : digitsB (c :: l) = true) : isDig c = true ∧ digitsB l = true := by
  simpa [digitsB] using h
theorem numGo_bd : ∀ (l : List UInt8) (x : Int), digitsB l = true → 0 ≤ x → x ≤ 1000000000009 → 0 ≤ numGo x l ∧ numGo x l ≤ 1000000000009
  | [], x, _, h0, h1 => ⟨h0, h1⟩
  | c :: r, x, hd, h0, h1 => by
    obtain ⟨hc, hr⟩ := digits_cons hd
    obtain ⟨b1, b2⟩ := isDig_yes hc
    simp only [numGo]
    split
    · exact ⟨h0, h1⟩
    · exact numGo_bd r _ hr (by omega) (by omega)
/-- a text behind its sign: how long it is, what stands ahead of a point and behind it, and whether there is one -/
def pTail (n : Nat) (b : Bool) (F A : List UInt8) (f : Bool) : Int × Int :=
  if (decide (20 < n) || !wholeB F || (f && !centsB A)) = true then (0, 5)
  else if (b && decide ((if amtB (numGo 0 F) = true then numGo 0 F * 100 + numGo 0 A else numGo 0 F) = 0)) = true then (0, 5)
  else if amtB (if b = true then -(if amtB (numGo 0 F) = true then numGo 0 F * 100 + numGo 0 A else numGo 0 F) else (if amtB (numGo 0 F) = true then numGo 0 F * 100 + numGo 0 A else numGo 0 F)) = true then
    (if b = true then -(if amtB (numGo 0 F) = true then numGo 0 F * 100 + numGo 0 A else numGo 0 F) else (if amtB (numGo 0 F) = true then numGo 0 F * 100 + numGo 0 A else numGo 0 F), 0)
  else (0, 10)
theorem ret_pair {a b : Int} {p : Int × Int} (h : p = (a, b)) : Ending.returned (.tuple #[.int .i64 a, .int .i64 b]) = .returned (.tuple #[.int .i64 p.1, .int .i64 p.2]) := by rw [h]

set_option maxHeartbeats 1000000 in
set_option maxRecDepth 100000 in
theorem parse_long (s T F A : ByteArray) (b f : Bool) (w : World) (hT : T.size ≤ 4611686018427387904) (hF : F.size ≤ 4611686018427387904) (hA : A.size ≤ 4611686018427387904)
    (cp : ∀ w : World, Calls Tryz.prog 53 #[.string s, .string ⟨#[45]⟩] w fun e w' => e = .returned (.tuple #[.string T, .bool b]) ∧ w = w')
    (ct : ∀ w : World, Calls Tryz.prog 56 #[.string T, .string ⟨#[46]⟩] w fun e w' => e = .returned (.tuple #[.string F, .string A, .bool f]) ∧ ∃ k, w' = w.drewN k)
    (h : 20 < T.size) :
    Calls Tryz.prog 41 #[.string s] w fun e w' => e = .returned (.tuple #[.int .i64 (pTail T.size b F.data.toList A.data.toList f).1, .int .i64 (pTail T.size b F.data.toList A.data.toList f).2]) ∧ Below w.heap.size w w' := by
  have HE := Lib.hid (show pTail T.size b F.data.toList A.data.toList f = (0, 5) by simp [pTail, h])
  have h2 : (20 : Int) < T.size := by omega
  go_enter Tryz.func41, Tryz.ntmps41
  go_wp2_with (fail)
  refine (cp _).mono ?_
  rintro e w' ⟨rfl, rfl⟩
  go_wp2_with (fail)
  refine (ct _).mono ?_
  rintro e w' ⟨rfl, k, rfl⟩
  go_wp2
  go_ret2
  exact ⟨ret_pair HE.out, below_drewN (Below.refl _ _) _⟩

set_option maxHeartbeats 1000000 in
set_option maxRecDepth 100000 in
theorem parse_whole (s T F A : ByteArray) (b f : Bool) (w : World) (hT : T.size ≤ 4611686018427387904) (hF : F.size ≤ 4611686018427387904) (hA : A.size ≤ 4611686018427387904)
    (cp : ∀ w : World, Calls Tryz.prog 53 #[.string s, .string ⟨#[45]⟩] w fun e w' => e = .returned (.tuple #[.string T, .bool b]) ∧ w = w')
    (ct : ∀ w : World, Calls Tryz.prog 56 #[.string T, .string ⟨#[46]⟩] w fun e w' => e = .returned (.tuple #[.string F, .string A, .bool f]) ∧ ∃ k, w' = w.drewN k)
    (h : T.size ≤ 20) (hw : wholeB F.data.toList = false) :
    Calls Tryz.prog 41 #[.string s] w fun e w' => e = .returned (.tuple #[.int .i64 (pTail T.size b F.data.toList A.data.toList f).1, .int .i64 (pTail T.size b F.data.toList A.data.toList f).2]) ∧ Below w.heap.size w w' := by
  have HE := Lib.hid (show pTail T.size b F.data.toList A.data.toList f = (0, 5) by simp [pTail, hw])
  have wh := fun w => whole_any F w hF
  rw [hw] at wh
  clear hw
  go_enter Tryz.func41, Tryz.ntmps41
  go_wp2_with (fail)
  refine (cp _).mono ?_
  rintro e w' ⟨rfl, rfl⟩
  go_wp2_with (fail)
  refine (ct _).mono ?_
  rintro e w' ⟨rfl, k, rfl⟩
  go_wp2_with (fail)
  refine (wh _).mono ?_
  rintro e w' ⟨rfl, rfl⟩
  go_wp2
  go_ret2
  exact ⟨ret_pair HE.out, below_drewN (Below.refl _ _) _⟩

set_option maxHeartbeats 1000000 in
set_option maxRecDepth 100000 in
theorem parse_cents (s T F A : ByteArray) (b f : Bool) (w : World) (hT : T.size ≤ 4611686018427387904) (hF : F.size ≤ 4611686018427387904) (hA : A.size ≤ 4611686018427387904)
    (cp : ∀ w : World, Calls Tryz.prog 53 #[.string s, .string ⟨#[45]⟩] w fun e w' => e = .returned (.tuple #[.string T, .bool b]) ∧ w = w')
    (ct : ∀ w : World, Calls Tryz.prog 56 #[.string T, .string ⟨#[46]⟩] w fun e w' => e = .returned (.tuple #[.string F, .string A, .bool f]) ∧ ∃ k, w' = w.drewN k)
    (h : T.size ≤ 20) (hw : wholeB F.data.toList = true) (hf : f = true) (hc : centsB A.data.toList = false) :
    Calls Tryz.prog 41 #[.string s] w fun e w' => e = .returned (.tuple #[.int .i64 (pTail T.size b F.data.toList A.data.toList f).1, .int .i64 (pTail T.size b F.data.toList A.data.toList f).2]) ∧ Below w.heap.size w w' := by
  have HE := Lib.hid (show pTail T.size b F.data.toList A.data.toList f = (0, 5) by simp [pTail, hf, hc])
  have wh := fun w => whole_any F w hF
  have ce := fun w => cents_any A w hA
  rw [hw] at wh
  rw [hc] at ce
  subst hf
  clear hw hc
  go_enter Tryz.func41, Tryz.ntmps41
  go_wp2_with (fail)
  refine (cp _).mono ?_
  rintro e w' ⟨rfl, rfl⟩
  go_wp2_with (fail)
  refine (ct _).mono ?_
  rintro e w' ⟨rfl, k, rfl⟩
  go_wp2_with (fail)
  refine (wh _).mono ?_
  rintro e w' ⟨rfl, rfl⟩
  go_wp2_with (fail)
  refine (ce _).mono ?_
  rintro e w' ⟨rfl, rfl⟩
  go_wp2
  go_ret2
  exact ⟨ret_pair HE.out, below_drewN (Below.refl _ _) _⟩

theorem cell_one_at (w : World) (k : Nat) (x : Value) (t : TypeId) : ((w.drewN k).alloc (.cells #[x] t)).cell? ⟨w.heap.size, 0, none⟩ = some x := by
  show ((w.drewN k).alloc (.cells #[x] t)).cell? ⟨(w.drewN k).heap.size, 0, none⟩ = _
  exact (World.cell?_alloc_new (w.drewN k) #[x] t 0).trans rfl
theorem below_one (w : World) (k : Nat) (o : Obj) : Below w.heap.size w ((w.drewN k).alloc o) := (below_drewN (Below.refl _ _) _).alloc (Nat.le_refl _) _
theorem size_one (w : World) (k : Nat) (o : Obj) : w.heap.size ≤ ((w.drewN k).alloc o).heap.size := by
  rw [World.size_alloc]
  exact Nat.le_succ _
theorem whole_digits {l : List UInt8} (h : wholeB l = true) : digitsB l = true := by
  unfold wholeB at h
  exact (Bool.and_eq_true_iff.1 h).2
theorem cents_digits {l : List UInt8} (h : centsB l = true) : digitsB l = true := by
  unfold centsB at h
  exact (Bool.and_eq_true_iff.1 h).2
set_option maxHeartbeats 4000000 in
set_option maxRecDepth 100000 in
theorem parse_main (s T F A : ByteArray) (b f : Bool) (w : World) (hT : T.size ≤ 4611686018427387904) (hF : F.size ≤ 4611686018427387904) (hA : A.size ≤ 4611686018427387904)
    (cp : ∀ w : World, Calls Tryz.prog 53 #[.string s, .string ⟨#[45]⟩] w fun e w' => e = .returned (.tuple #[.string T, .bool b]) ∧ w = w')
    (ct : ∀ w : World, Calls Tryz.prog 56 #[.string T, .string ⟨#[46]⟩] w fun e w' => e = .returned (.tuple #[.string F, .string A, .bool f]) ∧ ∃ k, w' = w.drewN k)
    (h : T.size ≤ 20) (hw : wholeB F.data.toList = true) (hf : f = true → centsB A.data.toList = true) (dA : digitsB A.data.toList = true) :
    Calls Tryz.prog 41 #[.string s] w fun e w' => e = .returned (.tuple #[.int .i64 (pTail T.size b F.data.toList A.data.toList f).1, .int .i64 (pTail T.size b F.data.toList A.data.toList f).2]) ∧ Below w.heap.size w w' := by
  have dF := whole_digits hw
  have wh := fun w => whole_any F w hF
  have ce := fun w => cents_any A w hA
  have nF := fun w => number_any F w hF dF
  have nA := fun w => number_any A w hA dA
  obtain ⟨F1, F2⟩ := numGo_bd _ 0 dF (by omega) (by omega)
  obtain ⟨A1, A2⟩ := numGo_bd _ 0 dA (by omega) (by omega)
  rw [hw] at wh
  have hE : pTail T.size b F.data.toList A.data.toList f = pTail 0 b F.data.toList A.data.toList f := by
    have h20 : ¬ 20 < T.size := by omega
    simp [pTail, h20]
  have hC : (decide (20 < 0) || !wholeB F.data.toList || (f && !centsB A.data.toList)) = false := by
    rw [hw]
    cases f
    · rfl
    · rw [hf rfl]; rfl
  rw [hE]
  unfold pTail
  rw [hC, if_neg (by simp)]
  clear hE hC dF dA hw
  generalize numGo 0 F.data.toList = x at *
  generalize numGo 0 A.data.toList = y at *
  have hy : ∃ z, z = (if amtB x = true then x * 100 + y else x) := ⟨_, rfl⟩
  obtain ⟨z, hz⟩ := hy
  rw [← hz]
  have z0 : 0 ≤ z := by
    cases hx : amtB x
    · rw [hx] at hz; simp at hz; omega
    · rw [hx] at hz; simp at hz; omega
  have z1 : z ≤ 11000000000009 := by
    cases hx : amtB x
    · rw [hx] at hz; simp at hz; omega
    · have := (amtB_yes hx).2
      rw [hx] at hz; simp at hz; omega
  have HZ := Lib.hid hz
  have HF := Lib.hid hf
  clear hz hf
  cases f
  · cases hx : amtB x
    · have hzx : x = z := by have := HZ.out; rw [hx] at this; simpa using this.symm
      have HX := Lib.hid hzx
      have HB := Lib.hid hx
      clear hx hzx
      obtain rfl := HX.out
      clear HX HZ HF
      cases b
      · cases hz : amtB x
        · have mb := fun w => may_bad x w hz
          rw [show (if (false && decide (x = 0)) = true then ((0 : Int), (5 : Int)) else if amtB (if false = true then -x else x) = true then (if false = true then -x else x, 0) else (0, 10)) = (0, 10) by simp [hz]]
          clear hz
          go_enter Tryz.func41, Tryz.ntmps41
          go_wp2_with (fail)
          refine (cp _).mono ?_
          rintro e w' ⟨rfl, rfl⟩
          go_wp2_with (fail)
          refine (ct _).mono ?_
          rintro e w' ⟨rfl, k, rfl⟩
          go_wp2_with (fail)
          refine (wh _).mono ?_
          rintro e w' ⟨rfl, rfl⟩
          go_wp2_with (fail)
          refine (nF _).mono ?_
          rintro e w' ⟨rfl, rfl⟩
          go_wp2_with (fail)
          refine (right_at x _ _ _ false HB.out ?_).mono ?_
          · exact cell_one_at _ _ _ _
          rintro e w' ⟨rfl, rfl⟩
          go_wp2_with (fail)
          refine (mb _).mono ?_
          rintro e w3 ⟨rfl, hb3⟩
          go_wp2
          go_ret2
          exact ⟨rfl, below_step (below_one _ _ _) hb3 (size_one _ _ _)⟩
        · have mb := fun w => may_ok x w hz
          rw [show (if (false && decide (x = 0)) = true then ((0 : Int), (5 : Int)) else if amtB (if false = true then -x else x) = true then (if false = true then -x else x, 0) else (0, 10)) = (x, 0) by simp [hz]]
          clear hz
          go_enter Tryz.func41, Tryz.ntmps41
          go_wp2_with (fail)
          refine (cp _).mono ?_
          rintro e w' ⟨rfl, rfl⟩
          go_wp2_with (fail)
          refine (ct _).mono ?_
          rintro e w' ⟨rfl, k, rfl⟩
          go_wp2_with (fail)
          refine (wh _).mono ?_
          rintro e w' ⟨rfl, rfl⟩
          go_wp2_with (fail)
          refine (nF _).mono ?_
          rintro e w' ⟨rfl, rfl⟩
          go_wp2_with (fail)
          refine (right_at x _ _ _ false HB.out ?_).mono ?_
          · exact cell_one_at _ _ _ _
          rintro e w' ⟨rfl, rfl⟩
          go_wp2_with (fail)
          refine (mb _).mono ?_
          rintro e w3 ⟨rfl, hb3⟩
          go_wp2
          go_ret2
          exact ⟨rfl, below_step (below_one _ _ _) hb3 (size_one _ _ _)⟩
      · by_cases h0 : x = 0
        · rw [show (if (true && decide (x = 0)) = true then ((0 : Int), (5 : Int)) else if amtB (if true = true then -x else x) = true then (if true = true then -x else x, 0) else (0, 10)) = (0, 5) by simp [h0]]
          have hz0 : (x == 0) = true := by simp [h0]
          clear h0
          go_enter Tryz.func41, Tryz.ntmps41
          go_wp2_with (fail)
          refine (cp _).mono ?_
          rintro e w' ⟨rfl, rfl⟩
          go_wp2_with (fail)
          refine (ct _).mono ?_
          rintro e w' ⟨rfl, k, rfl⟩
          go_wp2_with (fail)
          refine (wh _).mono ?_
          rintro e w' ⟨rfl, rfl⟩
          go_wp2_with (fail)
          refine (nF _).mono ?_
          rintro e w' ⟨rfl, rfl⟩
          go_wp2_with (fail)
          refine (right_at x _ _ _ false HB.out ?_).mono ?_
          · exact cell_one_at _ _ _ _
          rintro e w' ⟨rfl, rfl⟩
          go_wp2
          go_ret2
          exact ⟨rfl, below_one _ _ _⟩
        · have hz0 : (x == 0) = false := by simp [h0]
          cases hz : amtB (-x)
          · have mb := fun w => may_bad (-x) w hz
            rw [show (if (true && decide (x = 0)) = true then ((0 : Int), (5 : Int)) else if amtB (if true = true then -x else x) = true then (if true = true then -x else x, 0) else (0, 10)) = (0, 10) by simp [hz, h0]]
            clear hz h0
            go_enter Tryz.func41, Tryz.ntmps41
            go_wp2_with (fail)
            refine (cp _).mono ?_
            rintro e w' ⟨rfl, rfl⟩
            go_wp2_with (fail)
            refine (ct _).mono ?_
            rintro e w' ⟨rfl, k, rfl⟩
            go_wp2_with (fail)
            refine (wh _).mono ?_
            rintro e w' ⟨rfl, rfl⟩
            go_wp2_with (fail)
            refine (nF _).mono ?_
            rintro e w' ⟨rfl, rfl⟩
            go_wp2_with (fail)
            refine (right_at x _ _ _ false HB.out ?_).mono ?_
            · exact cell_one_at _ _ _ _
            rintro e w' ⟨rfl, rfl⟩
            go_wp2_with (fail)
            refine (mb _).mono ?_
            rintro e w3 ⟨rfl, hb3⟩
            go_wp2
            go_ret2
            exact ⟨rfl, below_step (below_one _ _ _) hb3 (size_one _ _ _)⟩
          · have mb := fun w => may_ok (-x) w hz
            rw [show (if (true && decide (x = 0)) = true then ((0 : Int), (5 : Int)) else if amtB (if true = true then -x else x) = true then (if true = true then -x else x, 0) else (0, 10)) = (-x, 0) by simp [hz, h0]]
            clear hz h0
            go_enter Tryz.func41, Tryz.ntmps41
            go_wp2_with (fail)
            refine (cp _).mono ?_
            rintro e w' ⟨rfl, rfl⟩
            go_wp2_with (fail)
            refine (ct _).mono ?_
            rintro e w' ⟨rfl, k, rfl⟩
            go_wp2_with (fail)
            refine (wh _).mono ?_
            rintro e w' ⟨rfl, rfl⟩
            go_wp2_with (fail)
            refine (nF _).mono ?_
            rintro e w' ⟨rfl, rfl⟩
            go_wp2_with (fail)
            refine (right_at x _ _ _ false HB.out ?_).mono ?_
            · exact cell_one_at _ _ _ _
            rintro e w' ⟨rfl, rfl⟩
            go_wp2_with (fail)
            refine (mb _).mono ?_
            rintro e w3 ⟨rfl, hb3⟩
            go_wp2
            go_ret2
            exact ⟨rfl, below_step (below_one _ _ _) hb3 (size_one _ _ _)⟩
    · have hzx : z = x * 100 + y := by have := HZ.out; rw [hx] at this; simpa using this
      obtain ⟨x1, x2⟩ := amtB_yes hx
      have HX := Lib.hid hzx
      have HB := Lib.hid hx
      clear hx hzx
      obtain rfl := HX.out
      clear HX HZ HF
      cases b
      · cases hz : amtB (x * 100 + y)
        · have mb := fun w => may_bad (x * 100 + y) w hz
          rw [show (if (false && decide ((x * 100 + y) = 0)) = true then ((0 : Int), (5 : Int)) else if amtB (if false = true then -(x * 100 + y) else (x * 100 + y)) = true then (if false = true then -(x * 100 + y) else (x * 100 + y), 0) else (0, 10)) = (0, 10) by simp [hz]]
          clear hz
          go_enter Tryz.func41, Tryz.ntmps41
          go_wp2_with (fail)
          refine (cp _).mono ?_
          rintro e w' ⟨rfl, rfl⟩
          go_wp2_with (fail)
          refine (ct _).mono ?_
          rintro e w' ⟨rfl, k, rfl⟩
          go_wp2_with (fail)
          refine (wh _).mono ?_
          rintro e w' ⟨rfl, rfl⟩
          go_wp2_with (fail)
          refine (nF _).mono ?_
          rintro e w' ⟨rfl, rfl⟩
          go_wp2_with (fail)
          refine (right_at x _ _ _ true HB.out ?_).mono ?_
          · exact cell_one_at _ _ _ _
          rintro e w' ⟨rfl, rfl⟩
          go_wp2_with (fail)
          refine (nA _).mono ?_
          rintro e w' ⟨rfl, rfl⟩
          go_wp2_with (fail)
          refine (mb _).mono ?_
          rintro e w3 ⟨rfl, hb3⟩
          go_wp2
          go_ret2
          exact ⟨rfl, below_step (below_one _ _ _) hb3 (size_one _ _ _)⟩
        · have mb := fun w => may_ok (x * 100 + y) w hz
          rw [show (if (false && decide ((x * 100 + y) = 0)) = true then ((0 : Int), (5 : Int)) else if amtB (if false = true then -(x * 100 + y) else (x * 100 + y)) = true then (if false = true then -(x * 100 + y) else (x * 100 + y), 0) else (0, 10)) = ((x * 100 + y), 0) by simp [hz]]
          clear hz
          go_enter Tryz.func41, Tryz.ntmps41
          go_wp2_with (fail)
          refine (cp _).mono ?_
          rintro e w' ⟨rfl, rfl⟩
          go_wp2_with (fail)
          refine (ct _).mono ?_
          rintro e w' ⟨rfl, k, rfl⟩
          go_wp2_with (fail)
          refine (wh _).mono ?_
          rintro e w' ⟨rfl, rfl⟩
          go_wp2_with (fail)
          refine (nF _).mono ?_
          rintro e w' ⟨rfl, rfl⟩
          go_wp2_with (fail)
          refine (right_at x _ _ _ true HB.out ?_).mono ?_
          · exact cell_one_at _ _ _ _
          rintro e w' ⟨rfl, rfl⟩
          go_wp2_with (fail)
          refine (nA _).mono ?_
          rintro e w' ⟨rfl, rfl⟩
          go_wp2_with (fail)
          refine (mb _).mono ?_
          rintro e w3 ⟨rfl, hb3⟩
          go_wp2
          go_ret2
          exact ⟨rfl, below_step (below_one _ _ _) hb3 (size_one _ _ _)⟩
      · by_cases h0 : (x * 100 + y) = 0
        · rw [show (if (true && decide ((x * 100 + y) = 0)) = true then ((0 : Int), (5 : Int)) else if amtB (if true = true then -(x * 100 + y) else (x * 100 + y)) = true then (if true = true then -(x * 100 + y) else (x * 100 + y), 0) else (0, 10)) = (0, 5) by simp [h0]]
          have hz0 : ((x * 100 + y) == 0) = true := by simp [h0]
          clear h0
          go_enter Tryz.func41, Tryz.ntmps41
          go_wp2_with (fail)
          refine (cp _).mono ?_
          rintro e w' ⟨rfl, rfl⟩
          go_wp2_with (fail)
          refine (ct _).mono ?_
          rintro e w' ⟨rfl, k, rfl⟩
          go_wp2_with (fail)
          refine (wh _).mono ?_
          rintro e w' ⟨rfl, rfl⟩
          go_wp2_with (fail)
          refine (nF _).mono ?_
          rintro e w' ⟨rfl, rfl⟩
          go_wp2_with (fail)
          refine (right_at x _ _ _ true HB.out ?_).mono ?_
          · exact cell_one_at _ _ _ _
          rintro e w' ⟨rfl, rfl⟩
          go_wp2_with (fail)
          refine (nA _).mono ?_
          rintro e w' ⟨rfl, rfl⟩
          go_wp2
          go_ret2
          exact ⟨rfl, below_one _ _ _⟩
        · have hz0 : ((x * 100 + y) == 0) = false := by simp [h0]
          cases hz : amtB (-(x * 100 + y))
          · have mb := fun w => may_bad (-(x * 100 + y)) w hz
            rw [show (if (true && decide ((x * 100 + y) = 0)) = true then ((0 : Int), (5 : Int)) else if amtB (if true = true then -(x * 100 + y) else (x * 100 + y)) = true then (if true = true then -(x * 100 + y) else (x * 100 + y), 0) else (0, 10)) = (0, 10) by simp [hz, h0]]
            clear hz h0
            go_enter Tryz.func41, Tryz.ntmps41
            go_wp2_with (fail)
            refine (cp _).mono ?_
            rintro e w' ⟨rfl, rfl⟩
            go_wp2_with (fail)
            refine (ct _).mono ?_
            rintro e w' ⟨rfl, k, rfl⟩
            go_wp2_with (fail)
            refine (wh _).mono ?_
            rintro e w' ⟨rfl, rfl⟩
            go_wp2_with (fail)
            refine (nF _).mono ?_
            rintro e w' ⟨rfl, rfl⟩
            go_wp2_with (fail)
            refine (right_at x _ _ _ true HB.out ?_).mono ?_
            · exact cell_one_at _ _ _ _
            rintro e w' ⟨rfl, rfl⟩
            go_wp2_with (fail)
            refine (nA _).mono ?_
            rintro e w' ⟨rfl, rfl⟩
            go_wp2_with (fail)
            refine (mb _).mono ?_
            rintro e w3 ⟨rfl, hb3⟩
            go_wp2
            go_ret2
            exact ⟨rfl, below_step (below_one _ _ _) hb3 (size_one _ _ _)⟩
          · have mb := fun w => may_ok (-(x * 100 + y)) w hz
            rw [show (if (true && decide ((x * 100 + y) = 0)) = true then ((0 : Int), (5 : Int)) else if amtB (if true = true then -(x * 100 + y) else (x * 100 + y)) = true then (if true = true then -(x * 100 + y) else (x * 100 + y), 0) else (0, 10)) = (-(x * 100 + y), 0) by simp [hz, h0]]
            clear hz h0
            go_enter Tryz.func41, Tryz.ntmps41
            go_wp2_with (fail)
            refine (cp _).mono ?_
            rintro e w' ⟨rfl, rfl⟩
            go_wp2_with (fail)
            refine (ct _).mono ?_
            rintro e w' ⟨rfl, k, rfl⟩
            go_wp2_with (fail)
            refine (wh _).mono ?_
            rintro e w' ⟨rfl, rfl⟩
            go_wp2_with (fail)
            refine (nF _).mono ?_
            rintro e w' ⟨rfl, rfl⟩
            go_wp2_with (fail)
            refine (right_at x _ _ _ true HB.out ?_).mono ?_
            · exact cell_one_at _ _ _ _
            rintro e w' ⟨rfl, rfl⟩
            go_wp2_with (fail)
            refine (nA _).mono ?_
            rintro e w' ⟨rfl, rfl⟩
            go_wp2_with (fail)
            refine (mb _).mono ?_
            rintro e w3 ⟨rfl, hb3⟩
            go_wp2
            go_ret2
            exact ⟨rfl, below_step (below_one _ _ _) hb3 (size_one _ _ _)⟩
  · have ce := fun w => cents_any A w hA
    rw [HF.out rfl] at ce
    cases hx : amtB x
    · have hzx : x = z := by have := HZ.out; rw [hx] at this; simpa using this.symm
      have HX := Lib.hid hzx
      have HB := Lib.hid hx
      clear hx hzx
      obtain rfl := HX.out
      clear HX HZ HF
      cases b
      · cases hz : amtB x
        · have mb := fun w => may_bad x w hz
          rw [show (if (false && decide (x = 0)) = true then ((0 : Int), (5 : Int)) else if amtB (if false = true then -x else x) = true then (if false = true then -x else x, 0) else (0, 10)) = (0, 10) by simp [hz]]
          clear hz
          go_enter Tryz.func41, Tryz.ntmps41
          go_wp2_with (fail)
          refine (cp _).mono ?_
          rintro e w' ⟨rfl, rfl⟩
          go_wp2_with (fail)
          refine (ct _).mono ?_
          rintro e w' ⟨rfl, k, rfl⟩
          go_wp2_with (fail)
          refine (wh _).mono ?_
          rintro e w' ⟨rfl, rfl⟩
          go_wp2_with (fail)
          refine (ce _).mono ?_
          rintro e w' ⟨rfl, rfl⟩
          go_wp2_with (fail)
          refine (nF _).mono ?_
          rintro e w' ⟨rfl, rfl⟩
          go_wp2_with (fail)
          refine (right_at x _ _ _ false HB.out ?_).mono ?_
          · exact cell_one_at _ _ _ _
          rintro e w' ⟨rfl, rfl⟩
          go_wp2_with (fail)
          refine (mb _).mono ?_
          rintro e w3 ⟨rfl, hb3⟩
          go_wp2
          go_ret2
          exact ⟨rfl, below_step (below_one _ _ _) hb3 (size_one _ _ _)⟩
        · have mb := fun w => may_ok x w hz
          rw [show (if (false && decide (x = 0)) = true then ((0 : Int), (5 : Int)) else if amtB (if false = true then -x else x) = true then (if false = true then -x else x, 0) else (0, 10)) = (x, 0) by simp [hz]]
          clear hz
          go_enter Tryz.func41, Tryz.ntmps41
          go_wp2_with (fail)
          refine (cp _).mono ?_
          rintro e w' ⟨rfl, rfl⟩
          go_wp2_with (fail)
          refine (ct _).mono ?_
          rintro e w' ⟨rfl, k, rfl⟩
          go_wp2_with (fail)
          refine (wh _).mono ?_
          rintro e w' ⟨rfl, rfl⟩
          go_wp2_with (fail)
          refine (ce _).mono ?_
          rintro e w' ⟨rfl, rfl⟩
          go_wp2_with (fail)
          refine (nF _).mono ?_
          rintro e w' ⟨rfl, rfl⟩
          go_wp2_with (fail)
          refine (right_at x _ _ _ false HB.out ?_).mono ?_
          · exact cell_one_at _ _ _ _
          rintro e w' ⟨rfl, rfl⟩
          go_wp2_with (fail)
          refine (mb _).mono ?_
          rintro e w3 ⟨rfl, hb3⟩
          go_wp2
          go_ret2
          exact ⟨rfl, below_step (below_one _ _ _) hb3 (size_one _ _ _)⟩
      · by_cases h0 : x = 0
        · rw [show (if (true && decide (x = 0)) = true then ((0 : Int), (5 : Int)) else if amtB (if true = true then -x else x) = true then (if true = true then -x else x, 0) else (0, 10)) = (0, 5) by simp [h0]]
          have hz0 : (x == 0) = true := by simp [h0]
          clear h0
          go_enter Tryz.func41, Tryz.ntmps41
          go_wp2_with (fail)
          refine (cp _).mono ?_
          rintro e w' ⟨rfl, rfl⟩
          go_wp2_with (fail)
          refine (ct _).mono ?_
          rintro e w' ⟨rfl, k, rfl⟩
          go_wp2_with (fail)
          refine (wh _).mono ?_
          rintro e w' ⟨rfl, rfl⟩
          go_wp2_with (fail)
          refine (ce _).mono ?_
          rintro e w' ⟨rfl, rfl⟩
          go_wp2_with (fail)
          refine (nF _).mono ?_
          rintro e w' ⟨rfl, rfl⟩
          go_wp2_with (fail)
          refine (right_at x _ _ _ false HB.out ?_).mono ?_
          · exact cell_one_at _ _ _ _
          rintro e w' ⟨rfl, rfl⟩
          go_wp2
          go_ret2
          exact ⟨rfl, below_one _ _ _⟩
        · have hz0 : (x == 0) = false := by simp [h0]
          cases hz : amtB (-x)
          · have mb := fun w => may_bad (-x) w hz
            rw [show (if (true && decide (x = 0)) = true then ((0 : Int), (5 : Int)) else if amtB (if true = true then -x else x) = true then (if true = true then -x else x, 0) else (0, 10)) = (0, 10) by simp [hz, h0]]
            clear hz h0
            go_enter Tryz.func41, Tryz.ntmps41
            go_wp2_with (fail)
            refine (cp _).mono ?_
            rintro e w' ⟨rfl, rfl⟩
            go_wp2_with (fail)
            refine (ct _).mono ?_
            rintro e w' ⟨rfl, k, rfl⟩
            go_wp2_with (fail)
            refine (wh _).mono ?_
            rintro e w' ⟨rfl, rfl⟩
            go_wp2_with (fail)
            refine (ce _).mono ?_
            rintro e w' ⟨rfl, rfl⟩
            go_wp2_with (fail)
            refine (nF _).mono ?_
            rintro e w' ⟨rfl, rfl⟩
            go_wp2_with (fail)
            refine (right_at x _ _ _ false HB.out ?_).mono ?_
            · exact cell_one_at _ _ _ _
            rintro e w' ⟨rfl, rfl⟩
            go_wp2_with (fail)
            refine (mb _).mono ?_
            rintro e w3 ⟨rfl, hb3⟩
            go_wp2
            go_ret2
            exact ⟨rfl, below_step (below_one _ _ _) hb3 (size_one _ _ _)⟩
          · have mb := fun w => may_ok (-x) w hz
            rw [show (if (true && decide (x = 0)) = true then ((0 : Int), (5 : Int)) else if amtB (if true = true then -x else x) = true then (if true = true then -x else x, 0) else (0, 10)) = (-x, 0) by simp [hz, h0]]
            clear hz h0
            go_enter Tryz.func41, Tryz.ntmps41
            go_wp2_with (fail)
            refine (cp _).mono ?_
            rintro e w' ⟨rfl, rfl⟩
            go_wp2_with (fail)
            refine (ct _).mono ?_
            rintro e w' ⟨rfl, k, rfl⟩
            go_wp2_with (fail)
            refine (wh _).mono ?_
            rintro e w' ⟨rfl, rfl⟩
            go_wp2_with (fail)
            refine (ce _).mono ?_
            rintro e w' ⟨rfl, rfl⟩
            go_wp2_with (fail)
            refine (nF _).mono ?_
            rintro e w' ⟨rfl, rfl⟩
            go_wp2_with (fail)
            refine (right_at x _ _ _ false HB.out ?_).mono ?_
            · exact cell_one_at _ _ _ _
            rintro e w' ⟨rfl, rfl⟩
            go_wp2_with (fail)
            refine (mb _).mono ?_
            rintro e w3 ⟨rfl, hb3⟩
            go_wp2
            go_ret2
            exact ⟨rfl, below_step (below_one _ _ _) hb3 (size_one _ _ _)⟩
    · have hzx : z = x * 100 + y := by have := HZ.out; rw [hx] at this; simpa using this
      obtain ⟨x1, x2⟩ := amtB_yes hx
      have HX := Lib.hid hzx
      have HB := Lib.hid hx
      clear hx hzx
      obtain rfl := HX.out
      clear HX HZ HF
      cases b
      · cases hz : amtB (x * 100 + y)
        · have mb := fun w => may_bad (x * 100 + y) w hz
          rw [show (if (false && decide ((x * 100 + y) = 0)) = true then ((0 : Int), (5 : Int)) else if amtB (if false = true then -(x * 100 + y) else (x * 100 + y)) = true then (if false = true then -(x * 100 + y) else (x * 100 + y), 0) else (0, 10)) = (0, 10) by simp [hz]]
          clear hz
          go_enter Tryz.func41, Tryz.ntmps41
          go_wp2_with (fail)
          refine (cp _).mono ?_
          rintro e w' ⟨rfl, rfl⟩
          go_wp2_with (fail)
          refine (ct _).mono ?_
          rintro e w' ⟨rfl, k, rfl⟩
          go_wp2_with (fail)
          refine (wh _).mono ?_
          rintro e w' ⟨rfl, rfl⟩
          go_wp2_with (fail)
          refine (ce _).mono ?_
          rintro e w' ⟨rfl, rfl⟩
          go_wp2_with (fail)
          refine (nF _).mono ?_
          rintro e w' ⟨rfl, rfl⟩
          go_wp2_with (fail)
          refine (right_at x _ _ _ true HB.out ?_).mono ?_
          · exact cell_one_at _ _ _ _
          rintro e w' ⟨rfl, rfl⟩
          go_wp2_with (fail)
          refine (nA _).mono ?_
          rintro e w' ⟨rfl, rfl⟩
          go_wp2_with (fail)
          refine (mb _).mono ?_
          rintro e w3 ⟨rfl, hb3⟩
          go_wp2
          go_ret2
          exact ⟨rfl, below_step (below_one _ _ _) hb3 (size_one _ _ _)⟩
        · have mb := fun w => may_ok (x * 100 + y) w hz
          rw [show (if (false && decide ((x * 100 + y) = 0)) = true then ((0 : Int), (5 : Int)) else if amtB (if false = true then -(x * 100 + y) else (x * 100 + y)) = true then (if false = true then -(x * 100 + y) else (x * 100 + y), 0) else (0, 10)) = ((x * 100 + y), 0) by simp [hz]]
          clear hz
          go_enter Tryz.func41, Tryz.ntmps41
          go_wp2_with (fail)
          refine (cp _).mono ?_
          rintro e w' ⟨rfl, rfl⟩
          go_wp2_with (fail)
          refine (ct _).mono ?_
          rintro e w' ⟨rfl, k, rfl⟩
          go_wp2_with (fail)
          refine (wh _).mono ?_
          rintro e w' ⟨rfl, rfl⟩
          go_wp2_with (fail)
          refine (ce _).mono ?_
          rintro e w' ⟨rfl, rfl⟩
          go_wp2_with (fail)
          refine (nF _).mono ?_
          rintro e w' ⟨rfl, rfl⟩
          go_wp2_with (fail)
          refine (right_at x _ _ _ true HB.out ?_).mono ?_
          · exact cell_one_at _ _ _ _
          rintro e w' ⟨rfl, rfl⟩
          go_wp2_with (fail)
          refine (nA _).mono ?_
          rintro e w' ⟨rfl, rfl⟩
          go_wp2_with (fail)
          refine (mb _).mono ?_
          rintro e w3 ⟨rfl, hb3⟩
          go_wp2
          go_ret2
          exact ⟨rfl, below_step (below_one _ _ _) hb3 (size_one _ _ _)⟩
      · by_cases h0 : (x * 100 + y) = 0
        · rw [show (if (true && decide ((x * 100 + y) = 0)) = true then ((0 : Int), (5 : Int)) else if amtB (if true = true then -(x * 100 + y) else (x * 100 + y)) = true then (if true = true then -(x * 100 + y) else (x * 100 + y), 0) else (0, 10)) = (0, 5) by simp [h0]]
          have hz0 : ((x * 100 + y) == 0) = true := by simp [h0]
          clear h0
          go_enter Tryz.func41, Tryz.ntmps41
          go_wp2_with (fail)
          refine (cp _).mono ?_
          rintro e w' ⟨rfl, rfl⟩
          go_wp2_with (fail)
          refine (ct _).mono ?_
          rintro e w' ⟨rfl, k, rfl⟩
          go_wp2_with (fail)
          refine (wh _).mono ?_
          rintro e w' ⟨rfl, rfl⟩
          go_wp2_with (fail)
          refine (ce _).mono ?_
          rintro e w' ⟨rfl, rfl⟩
          go_wp2_with (fail)
          refine (nF _).mono ?_
          rintro e w' ⟨rfl, rfl⟩
          go_wp2_with (fail)
          refine (right_at x _ _ _ true HB.out ?_).mono ?_
          · exact cell_one_at _ _ _ _
          rintro e w' ⟨rfl, rfl⟩
          go_wp2_with (fail)
          refine (nA _).mono ?_
          rintro e w' ⟨rfl, rfl⟩
          go_wp2
          go_ret2
          exact ⟨rfl, below_one _ _ _⟩
        · have hz0 : ((x * 100 + y) == 0) = false := by simp [h0]
          cases hz : amtB (-(x * 100 + y))
          · have mb := fun w => may_bad (-(x * 100 + y)) w hz
            rw [show (if (true && decide ((x * 100 + y) = 0)) = true then ((0 : Int), (5 : Int)) else if amtB (if true = true then -(x * 100 + y) else (x * 100 + y)) = true then (if true = true then -(x * 100 + y) else (x * 100 + y), 0) else (0, 10)) = (0, 10) by simp [hz, h0]]
            clear hz h0
            go_enter Tryz.func41, Tryz.ntmps41
            go_wp2_with (fail)
            refine (cp _).mono ?_
            rintro e w' ⟨rfl, rfl⟩
            go_wp2_with (fail)
            refine (ct _).mono ?_
            rintro e w' ⟨rfl, k, rfl⟩
            go_wp2_with (fail)
            refine (wh _).mono ?_
            rintro e w' ⟨rfl, rfl⟩
            go_wp2_with (fail)
            refine (ce _).mono ?_
            rintro e w' ⟨rfl, rfl⟩
            go_wp2_with (fail)
            refine (nF _).mono ?_
            rintro e w' ⟨rfl, rfl⟩
            go_wp2_with (fail)
            refine (right_at x _ _ _ true HB.out ?_).mono ?_
            · exact cell_one_at _ _ _ _
            rintro e w' ⟨rfl, rfl⟩
            go_wp2_with (fail)
            refine (nA _).mono ?_
            rintro e w' ⟨rfl, rfl⟩
            go_wp2_with (fail)
            refine (mb _).mono ?_
            rintro e w3 ⟨rfl, hb3⟩
            go_wp2
            go_ret2
            exact ⟨rfl, below_step (below_one _ _ _) hb3 (size_one _ _ _)⟩
          · have mb := fun w => may_ok (-(x * 100 + y)) w hz
            rw [show (if (true && decide ((x * 100 + y) = 0)) = true then ((0 : Int), (5 : Int)) else if amtB (if true = true then -(x * 100 + y) else (x * 100 + y)) = true then (if true = true then -(x * 100 + y) else (x * 100 + y), 0) else (0, 10)) = (-(x * 100 + y), 0) by simp [hz, h0]]
            clear hz h0
            go_enter Tryz.func41, Tryz.ntmps41
            go_wp2_with (fail)
            refine (cp _).mono ?_
            rintro e w' ⟨rfl, rfl⟩
            go_wp2_with (fail)
            refine (ct _).mono ?_
            rintro e w' ⟨rfl, k, rfl⟩
            go_wp2_with (fail)
            refine (wh _).mono ?_
            rintro e w' ⟨rfl, rfl⟩
            go_wp2_with (fail)
            refine (ce _).mono ?_
            rintro e w' ⟨rfl, rfl⟩
            go_wp2_with (fail)
            refine (nF _).mono ?_
            rintro e w' ⟨rfl, rfl⟩
            go_wp2_with (fail)
            refine (right_at x _ _ _ true HB.out ?_).mono ?_
            · exact cell_one_at _ _ _ _
            rintro e w' ⟨rfl, rfl⟩
            go_wp2_with (fail)
            refine (nA _).mono ?_
            rintro e w' ⟨rfl, rfl⟩
            go_wp2_with (fail)
            refine (mb _).mono ?_
            rintro e w3 ⟨rfl, hb3⟩
            go_wp2
            go_ret2
            exact ⟨rfl, below_step (below_one _ _ _) hb3 (size_one _ _ _)⟩
end Go.Proofs.YthknjpmhomjobaaGreatDoor
