/- What post.named and post.Check answer of any entries. -/
import Derived.Test.YtgadlfdioakodabDoorEnt
import Derived.Test.YtgadlfdioakodabDoorNam
import Derived.Test.YtgadlfdioakodabDoorFst
namespace Go.Proofs.YtgadlfdioakodabDoor
open Go.RowKit Go.Sort
set_option linter.unusedVariables false
set_option linter.unusedSimpArgs false

/-- what stands ahead of a contribution's name -/
def fundL : List UInt8 := [102, 117, 110, 100, 45]
/-- may an account be named so? -/
def accB (s : ByteArray) : Bool := nameB s.data.toList || nameB (Lib.trimPrefix s.data.toList fundL)
theorem named_any (s : ByteArray) (w : World) :
    Calls Tryd.prog 34 #[.string s] w fun e w' => e = .returned (.bool (accB s)) ∧ w = w' := by
  have c1 := name_v s
  have c2 : ∀ w, Calls Tryd.prog 65 #[.string s, .string ⟨#[102, 117, 110, 100, 45]⟩] w fun e w' => e = .returned (.string ⟨(Lib.trimPrefix s.data.toList fundL).toArray⟩) ∧ w' = w := fun w => Tryd.strings_TrimPrefix s ⟨#[102, 117, 110, 100, 45]⟩ w
  have c3 := fun w => name_v ⟨(Lib.trimPrefix s.data.toList fundL).toArray⟩ w
  unfold accB
  simp only [List.toList_toArray] at c3
  cases h : nameB s.data.toList
  · rw [h] at c1
    rw [Bool.false_or]
    generalize nameB (Lib.trimPrefix s.data.toList fundL) = r at *
    generalize (⟨(Lib.trimPrefix s.data.toList fundL).toArray⟩ : ByteArray) = t at *
    clear h
    go_enter Tryd.func34, Tryd.ntmps34
    go_wp2_with (fail)
    with_reducible refine (c1 _).mono ?_
    rintro e w1 ⟨rfl, rfl⟩
    go_wp2_with (fail)
    with_reducible refine (c2 _).mono ?_
    rintro e w1 ⟨rfl, rfl⟩
    go_wp2_with (fail)
    with_reducible refine (c3 _).mono ?_
    rintro e w2 ⟨rfl, rfl⟩
    go_wp2
    go_ret
    exact ⟨rfl, rfl⟩
  · rw [h] at c1
    rw [Bool.true_or]
    clear h c2 c3
    go_enter Tryd.func34, Tryd.ntmps34
    go_wp2_with (fail)
    with_reducible refine (c1 _).mono ?_
    rintro e w1 ⟨rfl, rfl⟩
    go_wp2
    go_ret
    exact ⟨rfl, rfl⟩
/-- what is wrong with an entry by itself -/
def enE (f : Nat → En) (i : Nat) : Int := if amtB (f i).2 = false then 10 else if accB (f i).1 = false then 5 else 0
/-- what so many entries come to -/
def enS (f : Nat → En) : Nat → Int
  | 0 => 0
  | i + 1 => enS f i + (f i).2
/-- what post.Check answers -/
def chkP (f : Nat → En) (n : Nat) : Int := if firstE (enE f) n ≠ 0 then firstE (enE f) n else if enS f n ≠ 0 then 6 else 0
theorem enS_bd {f : Nat → En} : ∀ {n : Nat}, firstE (enE f) n = 0 → -100000000000 * (n : Int) ≤ enS f n ∧ enS f n ≤ 100000000000 * (n : Int)
  | 0, _ => ⟨by show _ ≤ (0 : Int); omega, by show (0 : Int) ≤ _; omega⟩
  | n + 1, h => by
    have h0 := first_zero h n (Nat.lt_succ_self _)
    have h1 : firstE (enE f) n = 0 := first_of_zero fun i hi => first_zero h i (by omega)
    have a := enS_bd h1
    unfold enE at h0
    split at h0
    · omega
    · rename_i hb
      have b := amtB_yes (show amtB (f n).2 = true by simpa using hb)
      show _ ≤ enS f n + (f n).2 ∧ enS f n + (f n).2 ≤ _
      omega
set_option maxRecDepth 100000 in
set_option maxHeartbeats 4000000 in
theorem pcheck_any (A : Option Addr) (n c : Nat) (f : Nat → En) (w : World) (h : EnM w A n f) (hn : n ≤ 100000) :
    Calls Tryd.prog 12 #[.slice A n c] w fun e w' => e = .returned (.int .i64 (chkP f n)) ∧ Below w.heap.size w w' := by
  have HE := Lib.hid h
  have HN := Lib.hid hn
  clear h hn
  go_enter Tryd.func12, Tryd.ntmps12
  go_wp2
  go_loopw [3, 8] (fun s j X => ∃ i : Nat, i ≤ n ∧ j = .int .i64 i ∧ s = .int .i64 (enS f i) ∧ firstE (enE f) i = 0 ∧ Below w.heap.size w X) (fun _ j _ => n - (intOf j).toNat)
  case atStart => exact ⟨0, Nat.zero_le _, rfl, rfl, rfl, Below.refl _ _⟩
  case round =>
    obtain ⟨i, hi, rfl, rfl, h0, hbX⟩ := hrel
    by_cases hlt : i < n
    · have hil : (i : Int) < (n : Int) := by omega
      have hwi : wrap64 ((i : Int) + 1) = (i : Int) + 1 := IntWalk.wrap64_in _ (by have := HN.out; omega)
      obtain ⟨b, o, rfl, hc⟩ := HE.out (by omega)
      obtain ⟨x0, x1⟩ := hc i hlt
      replace x0 := cell_later hbX x0
      replace x1 := cell_later hbX x1
      have HL := Lib.hid hlt
      have HEI : Hid (enE f i = if amtB (f i).2 = false then 10 else if accB (f i).1 = false then 5 else 0) := Lib.hid rfl
      have HSN : Hid (enS f (i + 1) = enS f i + (f i).2) := Lib.hid rfl
      have HST : Hid (enE f i ≠ 0 → chkP f n = enE f i) := Lib.hid fun e => by
        have := first_stop hlt h0 e
        unfold chkP
        rw [this, if_pos e]
      have HSU : Hid (enE f i = 0 → firstE (enE f) (i + 1) = 0) := Lib.hid fun e => first_succ h0 e
      have HS0 := Lib.hid (enS_bd h0)
      clear hc hi hlt h0
      generalize enE f i = E at *
      generalize hS1 : enS f (i + 1) = S1 at *
      have HS1 := Lib.hid hS1
      clear hS1
      generalize enS f i = S at *
      generalize hN : (f i).1 = N at *
      generalize hv : (f i).2 = v at *
      clear hN hv
      have KX := bx_new wr [.string N, .int .i64 v] 26
      have NX := below_new wr (.cells #[.string N, .int .i64 v] 26)
      have B1 := below_step hbX NX hbX.size
      have kx_0 := KX.cell (i := 0) rfl
      have kx_1 := KX.cell (i := 1) rfl
      have cR := right1 v (wr.alloc (.cells #[.string N, .int .i64 v] 26)) 2 (amtB v) rfl
      rw [show (wr.alloc (.cells #[.string N, .int .i64 v] 26)).heap.size = wr.heap.size + 1 by simp] at cR
      have cA := named_any N
      have N2 := below_new (wr.alloc (.cells #[.string N, .int .i64 v] 26)) (.cells #[.int .i64 v] 2)
      have B2 := below_step B1 N2 B1.size
      have K2 := KX.below N2
      cases ha : amtB v
      · have HR : Hid (chkP f n = 10) := Lib.hid (by
          have e := HEI.out
          rw [if_pos ha] at e
          rw [HST.out (by rw [e]; decide), e])
        rw [ha] at cR
        clear hbX NX B1 N2 K2 KX cA ha
        go_wp2_with (fail)
        with_reducible refine cR.mono ?_
        rintro e w7 ⟨rfl, hw7⟩
        subst hw7
        clear cR kx_0 kx_1 x0 x1
        go_wp2
        go_ret
        exact ⟨ret_i HR.out.symm, B2⟩
      rw [ha] at cR
      have HA := Lib.hid ha
      clear hbX NX B1 N2 KX ha
      go_wp2_with (fail)
      with_reducible refine cR.mono ?_
      rintro e w7 ⟨rfl, hw7⟩
      subst hw7
      clear cR kx_0 kx_1 x0 x1
      have kx_0 := K2.cell (i := 0) rfl
      have kx_1 := K2.cell (i := 1) rfl
      generalize ((wr.alloc (.cells #[.string N, .int .i64 v] 26)).alloc (.cells #[.int .i64 v] 2)) = w8 at *
      cases hb : accB N
      · have HR : Hid (chkP f n = 5) := Lib.hid (by
          have e := HEI.out
          rw [HA.out, hb] at e
          have e2 : E = 5 := by simpa using e
          rw [HST.out (by rw [e2]; decide), e2])
        rw [hb] at cA
        clear hb K2
        go_wp2_with (fail)
        with_reducible refine (cA _).mono ?_
        rintro e w9 ⟨rfl, rfl⟩
        go_wp2
        go_ret
        exact ⟨ret_i HR.out.symm, B2⟩
      have HE0 : Hid (E = 0) := Lib.hid (by
        have e := HEI.out
        rw [HA.out, hb] at e
        simpa using e)
      have hsw : wrap64 (S + v) = S1 := by
        have a := HS0.out
        have b := amtB_yes HA.out
        have d := HN.out
        have l := HL.out
        rw [HSN.out]
        exact IntWalk.wrap64_in _ (by omega)
      rw [hb] at cA
      clear hb K2
      go_wp2_with (fail)
      with_reducible refine (cA _).mono ?_
      rintro e w9 ⟨rfl, rfl⟩
      have HB2 := Lib.hid B2
      clear cA B2
      go_wp2
      exact ⟨⟨i + 1, Nat.succ_le_of_lt HL.out, by go_num, by rw [HS1.out, hsw], HSU.out HE0.out, HB2.out⟩, by first | exact meas_step HL.out | (rw [hwi]; exact meas_step HL.out)⟩
    · obtain rfl : i = n := by omega
      have hnl : ¬ (i : Int) < (i : Int) := by omega
      by_cases hs : enS f i = 0
      · have e0 : (enS f i != 0) = false := by simp [hs]
        have HR : Hid (chkP f i = 0) := Lib.hid (by unfold chkP; rw [h0]; simp [hs])
        clear hs h0 hlt hi
        generalize enS f i = S at *
        go_wp2
        go_ret
        exact ⟨ret_i HR.out.symm, hbX⟩
      · have e0 : (enS f i != 0) = true := by simp [hs]
        have HR : Hid (chkP f i = 6) := Lib.hid (by unfold chkP; rw [h0]; simp [hs])
        clear hs h0 hlt hi
        generalize enS f i = S at *
        go_wp2
        go_ret
        exact ⟨ret_i HR.out.symm, hbX⟩
end Go.Proofs.YtgadlfdioakodabDoor
