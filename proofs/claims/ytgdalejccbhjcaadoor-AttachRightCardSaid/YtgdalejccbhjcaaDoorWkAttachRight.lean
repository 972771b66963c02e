/- The walk of the law AttachRight. -/
import Derived.Test.YtgdalejccbhjcaaDoorAttE
import Derived.Test.YtgdalejccbhjcaaDoorTxtParse
namespace Go.Proofs.YtgdalejccbhjcaaDoor
open Go.RowKit Go.Sort
set_option linter.unusedVariables false
set_option linter.unusedSimpArgs false

set_option maxRecDepth 100000 in
set_option maxHeartbeats 8000000 in
theorem ari_long (A : Option Addr) (n c : Nat) (f : Nat → Tkn) (w : World) (hT : Tab w) (h : Tks w A n f) (hn : 40 < n) :
    Calls Tryd.prog 7 #[.slice A n c] w fun e w' => e = .returned (.bool true) ∧ Below w.heap.size w w' := by
  have q0 : decide (40 < (n : Int)) = true := decide_eq_true (by omega)
  go_enter Tryd.func7, Tryd.ntmps7
  go_wp2_with (fail)
  with_reducible refine (serves_any _ hT).mono ?_
  rintro e w1 ⟨rfl, B1⟩
  go_wp2
  go_ret
  exact ⟨rfl, B1⟩
theorem ix5_0 (x1 x2 x3 x4 x5 : Int) (W : World) : (Instr.index 49 (.agg #[.int .i64 x1, .int .i64 x2, .int .i64 x3, .int .i64 x4, .int .i64 x5]) (.int .i64 0)).run Tryd.prog W = .ok (.int .i64 x1) W := by kernel_rfl
theorem ix5_1 (x1 x2 x3 x4 x5 : Int) (W : World) : (Instr.index 49 (.agg #[.int .i64 x1, .int .i64 x2, .int .i64 x3, .int .i64 x4, .int .i64 x5]) (.int .i64 1)).run Tryd.prog W = .ok (.int .i64 x2) W := by kernel_rfl
theorem ix5_2 (x1 x2 x3 x4 x5 : Int) (W : World) : (Instr.index 49 (.agg #[.int .i64 x1, .int .i64 x2, .int .i64 x3, .int .i64 x4, .int .i64 x5]) (.int .i64 2)).run Tryd.prog W = .ok (.int .i64 x3) W := by kernel_rfl
theorem ix5_3 (x1 x2 x3 x4 x5 : Int) (W : World) : (Instr.index 49 (.agg #[.int .i64 x1, .int .i64 x2, .int .i64 x3, .int .i64 x4, .int .i64 x5]) (.int .i64 3)).run Tryd.prog W = .ok (.int .i64 x4) W := by kernel_rfl
theorem ix5_4 (x1 x2 x3 x4 x5 : Int) (W : World) : (Instr.index 49 (.agg #[.int .i64 x1, .int .i64 x2, .int .i64 x3, .int .i64 x4, .int .i64 x5]) (.int .i64 4)).run Tryd.prog W = .ok (.int .i64 x5) W := by kernel_rfl
theorem ix4_0 (x1 x2 x4 x5 : Int) (W : World) : (Instr.index 53 (.agg #[.int .i64 x1, .int .i64 x2, .int .i64 x4, .int .i64 x5]) (.int .i64 0)).run Tryd.prog W = .ok (.int .i64 x1) W := by kernel_rfl
theorem ix4_1 (x1 x2 x4 x5 : Int) (W : World) : (Instr.index 53 (.agg #[.int .i64 x1, .int .i64 x2, .int .i64 x4, .int .i64 x5]) (.int .i64 1)).run Tryd.prog W = .ok (.int .i64 x2) W := by kernel_rfl
theorem ix4_2 (x1 x2 x4 x5 : Int) (W : World) : (Instr.index 53 (.agg #[.int .i64 x1, .int .i64 x2, .int .i64 x4, .int .i64 x5]) (.int .i64 2)).run Tryd.prog W = .ok (.int .i64 x4) W := by kernel_rfl
theorem ix4_3 (x1 x2 x4 x5 : Int) (W : World) : (Instr.index 53 (.agg #[.int .i64 x1, .int .i64 x2, .int .i64 x4, .int .i64 x5]) (.int .i64 3)).run Tryd.prog W = .ok (.int .i64 x5) W := by kernel_rfl
theorem txt_len (x : Int) (h : -9223372036854775808 ≤ x) (h' : x ≤ 9223372036854775807) : (txt x).length ≤ 24 := by
  unfold txt tailB
  have hlen := Lib.decDigits_length (x.natAbs / 100)
  have hnd : Lib.nDigits (x.natAbs / 100) ≤ 20 := by
    rcases Nat.eq_zero_or_pos (x.natAbs / 100) with h0 | h0
    · rw [h0, Lib.nDigits_small (by omega)]; omega
    · have := Lib.numDigits_eq (x.natAbs / 100) h0 (by omega); split at this <;> omega
  simp only [List.length_append, List.length_cons, List.length_nil]
  split <;> simp <;> omega
theorem parse_tx (x : Int) (w : World) (h : amtB x = true) : Calls Tryd.prog 19 #[.string ⟨(txt x).toArray⟩] w fun e w' => e = .returned (.tuple #[.int .i64 x, .int .i64 0]) ∧ Below w.heap.size w w' := by
  obtain ⟨h1, h2⟩ := amtB_yes h
  have hp := parse_txt x (by omega) (by omega)
  rw [if_pos h] at hp
  have hl := txt_len x (by omega) (by omega)
  have c := parse_any ⟨(txt x).toArray⟩ w (by simp only [ByteArray.size, List.size_toArray]; omega)
  have e : (⟨(txt x).toArray⟩ : ByteArray).data.toList = txt x := by simp
  rw [e, hp] at c
  exact c
/-- may the amounts of one be? -/
def amT (x : Tkn) : Bool := amtB x.b && (amtB x.r && (amtB x.d && (amtB x.t && amtB x.c)))
set_option maxRecDepth 100000 in
set_option maxHeartbeats 16000000 in
theorem ari_any (A : Option Addr) (n c : Nat) (f : Nat → Tkn) (w : World) (hT : Tab w) (h : Tks w A n f) (hn : n ≤ 40) (hf : ∀ i, i < n → (f i).F) :
    Calls Tryd.prog 7 #[.slice A n c] w fun e w' => e = .returned (.bool true) ∧ Below w.heap.size w w' := by
  have q0 : decide (40 < (n : Int)) = false := decide_eq_false (by omega)
  have q00 : ¬ 40 < n := by omega
  have HFF := Lib.hid hf
  clear hf
  go_enter Tryd.func7, Tryd.ntmps7
  go_wp2_with (fail)
  with_reducible refine (serves_any _ hT).mono ?_
  rintro e w1 ⟨rfl, B1⟩
  have h1 := h.below B1
  have hT1 := hT.below B1
  clear h hT
  go_wp2
  go_loopw [3, 4, 22] (fun s t k W => ∃ i : Nat, i ≤ n ∧ s = .bool (okR f i) ∧ t = .bool (shR f i) ∧ k = .int .i64 i ∧ (∀ j, j < i → amT (f j) = true) ∧ Below w1.heap.size w1 W) (fun _ _ k _ => n - (intOf k).toNat)
  case atStart => exact ⟨0, Nat.zero_le _, rfl, rfl, rfl, fun j hj => absurd hj (Nat.not_lt_zero j), Below.refl _ _⟩
  case round =>
    obtain ⟨i, hi, rfl, rfl, rfl, hall, hB⟩ := hrel
    by_cases hlt : i < n
    · obtain ⟨b, o, rfl, hc⟩ := id (h1 (by omega))
      obtain ⟨c0, c1, c2, c3, c4, c5⟩ := (hc i hlt).below hB
      have hil : (i : Int) < (n : Int) := by omega
      have HAL := Lib.hid hall
      have HS : Hid (shR f (i + 1) = (shR f i || decide ((f i).t < (f i).d))) := Lib.hid rfl
      have HK : Hid (okR f (i + 1) = (okR f i && (decide ((f i).b + (f i).r = (f i).d) && decide ((f i).t + (f i).c = (f i).d) && decide (0 ≤ (f i).t) && !(shR f i && decide ((f i).t ≠ 0))))) := Lib.hid rfl
      have HA : Hid (amT (f i) = (amtB (f i).b && (amtB (f i).r && (amtB (f i).d && (amtB (f i).t && amtB (f i).c))))) := Lib.hid rfl
      obtain ⟨f0, f1, f2, f3, f4, f5⟩ := HFF.out i hlt
      unfold fit at f0 f1 f2 f3 f4 f5
      clear hc hall
      generalize hsi : shR f i = si at *
      clear hsi
      generalize hoi : okR f i = oi at *
      clear hoi
      generalize (f i).o = x0 at *
      generalize (f i).b = x1 at *
      generalize (f i).r = x2 at *
      generalize (f i).d = x3 at *
      generalize (f i).t = x4 at *
      generalize (f i).c = x5 at *
      have K := bx_new wr [.int .i64 x0, .int .i64 x1, .int .i64 x2, .int .i64 x3, .int .i64 x4, .int .i64 x5] 36
      have NB := below_new wr (.cells #[.int .i64 x0, .int .i64 x1, .int .i64 x2, .int .i64 x3, .int .i64 x4, .int .i64 x5] 36)
      have B4 := below_step hB NB hB.size
      have k0 := K.cell (i := 0) rfl
      have k1 := K.cell (i := 1) rfl
      have k2 := K.cell (i := 2) rfl
      have k3 := K.cell (i := 3) rfl
      have k4 := K.cell (i := 4) rfl
      have k5 := K.cell (i := 5) rfl
      have hwb : wr.heap.size < wr.heap.size + 1 := by omega
      go_wp2_with (fail)
      clear c0 c1 c2 c3 c4 c5 NB hB hwb
      generalize wr.alloc (.cells #[.int .i64 x0, .int .i64 x1, .int .i64 x2, .int .i64 x3, .int .i64 x4, .int .i64 x5] 36) = W4 at *
      generalize wr.heap.size = tb at *
      have B14 := below_step B1 B4 B1.size
      go_loopw [37] (fun k X => ∃ j : Nat, j ≤ 5 ∧ k = .int .i64 j ∧ (1 ≤ j → amtB x1 = true) ∧ (2 ≤ j → amtB x2 = true) ∧ (3 ≤ j → amtB x3 = true) ∧ (4 ≤ j → amtB x4 = true) ∧ (5 ≤ j → amtB x5 = true) ∧ X = W4) (fun k _ => 5 - (intOf k).toNat)
      case atStart => exact ⟨0, by omega, rfl, fun h => absurd h (by omega), fun h => absurd h (by omega), fun h => absurd h (by omega), fun h => absurd h (by omega), fun h => absurd h (by omega), rfl⟩
      case round =>
        obtain ⟨j, hj, rfl, p1, p2, p3, p4, p5, hwb⟩ := hrel
        have hwb2 := hwb.symm
        clear hwb
        subst hwb2
        have hj4 : j = 0 ∨ j = 1 ∨ j = 2 ∨ j = 3 ∨ j = 4 ∨ j = 5 := by omega
        rcases hj4 with rfl | rfl | rfl | rfl | rfl | rfl
        · clear p1 p2 p3 p4 p5
          have lx := fun W => ix5_0 x1 x2 x3 x4 x5 W
          rcases Int.lt_or_le 100000000000 x1 with h1 | h1
          · have d1 : decide (100000000000 < x1) = true := decide_eq_true h1
            go_wp2
            go_ret
            exact ⟨rfl, B14⟩
          · have d1 : decide (100000000000 < x1) = false := decide_eq_false (by omega)
            have e1 : ¬ 100000000000 < x1 := by omega
            rcases Int.lt_or_le x1 (-100000000000) with h2 | h2
            · have d2 : decide (x1 < -100000000000) = true := decide_eq_true h2
              go_wp2
              go_ret
              exact ⟨rfl, B14⟩
            · have d2 : decide (x1 < -100000000000) = false := decide_eq_false (by omega)
              have e2 : ¬ x1 < -100000000000 := by omega
              have HQV : Hid (amtB x1 = true) := Lib.hid (amtB_mk h2 h1)
              clear h1 h2
              go_wp2
              refine ⟨⟨1, by omega, rfl, fun _ => HQV.out, fun h => absurd h (by omega), fun h => absurd h (by omega), fun h => absurd h (by omega), fun h => absurd h (by omega), by first | rfl | trivial⟩, ?_⟩
              simp [intOf]
        · clear p2 p3 p4 p5
          have lx := fun W => ix5_1 x1 x2 x3 x4 x5 W
          rcases Int.lt_or_le 100000000000 x2 with h1 | h1
          · have d1 : decide (100000000000 < x2) = true := decide_eq_true h1
            go_wp2
            go_ret
            exact ⟨rfl, B14⟩
          · have d1 : decide (100000000000 < x2) = false := decide_eq_false (by omega)
            have e1 : ¬ 100000000000 < x2 := by omega
            rcases Int.lt_or_le x2 (-100000000000) with h2 | h2
            · have d2 : decide (x2 < -100000000000) = true := decide_eq_true h2
              go_wp2
              go_ret
              exact ⟨rfl, B14⟩
            · have d2 : decide (x2 < -100000000000) = false := decide_eq_false (by omega)
              have e2 : ¬ x2 < -100000000000 := by omega
              have HQV : Hid (amtB x2 = true) := Lib.hid (amtB_mk h2 h1)
              clear h1 h2
              go_wp2
              refine ⟨⟨2, by omega, rfl, fun _ => p1 (by omega), fun _ => HQV.out, fun h => absurd h (by omega), fun h => absurd h (by omega), fun h => absurd h (by omega), by first | rfl | trivial⟩, ?_⟩
              simp [intOf]
        · clear p3 p4 p5
          have lx := fun W => ix5_2 x1 x2 x3 x4 x5 W
          rcases Int.lt_or_le 100000000000 x3 with h1 | h1
          · have d1 : decide (100000000000 < x3) = true := decide_eq_true h1
            go_wp2
            go_ret
            exact ⟨rfl, B14⟩
          · have d1 : decide (100000000000 < x3) = false := decide_eq_false (by omega)
            have e1 : ¬ 100000000000 < x3 := by omega
            rcases Int.lt_or_le x3 (-100000000000) with h2 | h2
            · have d2 : decide (x3 < -100000000000) = true := decide_eq_true h2
              go_wp2
              go_ret
              exact ⟨rfl, B14⟩
            · have d2 : decide (x3 < -100000000000) = false := decide_eq_false (by omega)
              have e2 : ¬ x3 < -100000000000 := by omega
              have HQV : Hid (amtB x3 = true) := Lib.hid (amtB_mk h2 h1)
              clear h1 h2
              go_wp2
              refine ⟨⟨3, by omega, rfl, fun _ => p1 (by omega), fun _ => p2 (by omega), fun _ => HQV.out, fun h => absurd h (by omega), fun h => absurd h (by omega), by first | rfl | trivial⟩, ?_⟩
              simp [intOf]
        · clear p4 p5
          have lx := fun W => ix5_3 x1 x2 x3 x4 x5 W
          rcases Int.lt_or_le 100000000000 x4 with h1 | h1
          · have d1 : decide (100000000000 < x4) = true := decide_eq_true h1
            go_wp2
            go_ret
            exact ⟨rfl, B14⟩
          · have d1 : decide (100000000000 < x4) = false := decide_eq_false (by omega)
            have e1 : ¬ 100000000000 < x4 := by omega
            rcases Int.lt_or_le x4 (-100000000000) with h2 | h2
            · have d2 : decide (x4 < -100000000000) = true := decide_eq_true h2
              go_wp2
              go_ret
              exact ⟨rfl, B14⟩
            · have d2 : decide (x4 < -100000000000) = false := decide_eq_false (by omega)
              have e2 : ¬ x4 < -100000000000 := by omega
              have HQV : Hid (amtB x4 = true) := Lib.hid (amtB_mk h2 h1)
              clear h1 h2
              go_wp2
              refine ⟨⟨4, by omega, rfl, fun _ => p1 (by omega), fun _ => p2 (by omega), fun _ => p3 (by omega), fun _ => HQV.out, fun h => absurd h (by omega), by first | rfl | trivial⟩, ?_⟩
              simp [intOf]
        · clear p5
          have lx := fun W => ix5_4 x1 x2 x3 x4 x5 W
          rcases Int.lt_or_le 100000000000 x5 with h1 | h1
          · have d1 : decide (100000000000 < x5) = true := decide_eq_true h1
            go_wp2
            go_ret
            exact ⟨rfl, B14⟩
          · have d1 : decide (100000000000 < x5) = false := decide_eq_false (by omega)
            have e1 : ¬ 100000000000 < x5 := by omega
            rcases Int.lt_or_le x5 (-100000000000) with h2 | h2
            · have d2 : decide (x5 < -100000000000) = true := decide_eq_true h2
              go_wp2
              go_ret
              exact ⟨rfl, B14⟩
            · have d2 : decide (x5 < -100000000000) = false := decide_eq_false (by omega)
              have e2 : ¬ x5 < -100000000000 := by omega
              have HQV : Hid (amtB x5 = true) := Lib.hid (amtB_mk h2 h1)
              clear h1 h2
              go_wp2
              refine ⟨⟨5, by omega, rfl, fun _ => p1 (by omega), fun _ => p2 (by omega), fun _ => p3 (by omega), fun _ => p4 (by omega), fun _ => HQV.out, by first | rfl | trivial⟩, ?_⟩
              simp [intOf]
        · have a1 := amtB_yes (p1 (by omega))
          have a2 := amtB_yes (p2 (by omega))
          have a3 := amtB_yes (p3 (by omega))
          have a4 := amtB_yes (p4 (by omega))
          have a5 := amtB_yes (p5 (by omega))
          have HAM : Hid (amT (f i) = true) := Lib.hid (by rw [HA.out, p1 (by omega), p2 (by omega), p3 (by omega), p4 (by omega), p5 (by omega)]; rfl)
          clear p1 p2 p3 p4 p5
          have hall2 : Hid (∀ j, j < i + 1 → amT (f j) = true) := Lib.hid (fun j hj => by
            by_cases h0 : j < i
            · exact HAL.out j h0
            · obtain rfl : j = i := by omega
              exact HAM.out)
          have HSt : Hid (x4 < x3 → shR f (i + 1) = true) := Lib.hid (fun h0 => by rw [HS.out, decide_eq_true h0]; simp)
          have HSf : Hid (¬ x4 < x3 → shR f (i + 1) = si) := Lib.hid (fun h0 => by rw [HS.out, decide_eq_false h0]; simp)
          have wl1 : wrap64 (x3 - x1) = x3 - x1 := IntWalk.wrap64_in _ (by omega)
          have wl2 : wrap64 (x3 - x5) = x3 - x5 := IntWalk.wrap64_in _ (by omega)
          by_cases e1 : x3 - x1 = x2
          rotate_left
          · have HK2 : Hid (okR f (i + 1) = false) := Lib.hid (by rw [HK.out, decide_eq_false (show ¬ x1 + x2 = x3 by omega)]; simp)
            have t1 : ((x3 - x1) != x2) = true := by simp [e1]
            clear e1 HK HS
            by_cases e5 : x4 < x3
            · have HS2 := Lib.hid (HSt.out e5)
              have t5 : decide (x4 < x3) = true := decide_eq_true e5
              go_wp2
              refine ⟨⟨i + 1, by omega, by rw [HK2.out], by rw [HS2.out], by go_num, hall2.out, B4⟩, ?_⟩
              simp [intOf]; omega
            · have HS2 := Lib.hid (HSf.out e5)
              have t5 : decide (x4 < x3) = false := decide_eq_false e5
              go_wp2
              refine ⟨⟨i + 1, by omega, by rw [HK2.out], by rw [HS2.out], by go_num, hall2.out, B4⟩, ?_⟩
              simp [intOf]; omega
          have t1 : ((x3 - x1) != x2) = false := by simp [e1]
          by_cases e2 : x3 - x5 = x4
          rotate_left
          · have HK2 : Hid (okR f (i + 1) = false) := Lib.hid (by rw [HK.out, decide_eq_false (show ¬ x4 + x5 = x3 by omega)]; simp)
            have t2 : ((x3 - x5) != x4) = true := by simp [e2]
            clear e1 e2 HK HS
            by_cases e5 : x4 < x3
            · have HS2 := Lib.hid (HSt.out e5)
              have t5 : decide (x4 < x3) = true := decide_eq_true e5
              go_wp2
              refine ⟨⟨i + 1, by omega, by rw [HK2.out], by rw [HS2.out], by go_num, hall2.out, B4⟩, ?_⟩
              simp [intOf]; omega
            · have HS2 := Lib.hid (HSf.out e5)
              have t5 : decide (x4 < x3) = false := decide_eq_false e5
              go_wp2
              refine ⟨⟨i + 1, by omega, by rw [HK2.out], by rw [HS2.out], by go_num, hall2.out, B4⟩, ?_⟩
              simp [intOf]; omega
          have t2 : ((x3 - x5) != x4) = false := by simp [e2]
          by_cases e3 : 0 ≤ x4
          rotate_left
          · have HK2 : Hid (okR f (i + 1) = false) := Lib.hid (by rw [HK.out, decide_eq_false e3]; simp)
            have t3 : decide (x4 < 0) = true := decide_eq_true (by omega)
            have t3' : x4 < 0 := by omega
            clear e1 e2 e3 HK HS
            by_cases e5 : x4 < x3
            · have HS2 := Lib.hid (HSt.out e5)
              have t5 : decide (x4 < x3) = true := decide_eq_true e5
              go_wp2
              refine ⟨⟨i + 1, by omega, by rw [HK2.out], by rw [HS2.out], by go_num, hall2.out, B4⟩, ?_⟩
              simp [intOf]; omega
            · have HS2 := Lib.hid (HSf.out e5)
              have t5 : decide (x4 < x3) = false := decide_eq_false e5
              go_wp2
              refine ⟨⟨i + 1, by omega, by rw [HK2.out], by rw [HS2.out], by go_num, hall2.out, B4⟩, ?_⟩
              simp [intOf]; omega
          have t3 : decide (x4 < 0) = false := decide_eq_false (by omega)
          have t3' : ¬ x4 < 0 := by omega
          have g1 : x1 + x2 = x3 := by omega
          have g2 : x4 + x5 = x3 := by omega
          by_cases e4 : 0 < x4
          rotate_left
          · have HK2 : Hid (okR f (i + 1) = oi) := Lib.hid (by rw [HK.out, decide_eq_true g1, decide_eq_true g2, decide_eq_true e3, decide_eq_false (show ¬ x4 ≠ 0 by omega)]; simp)
            have t4 : decide (0 < x4) = false := decide_eq_false e4
            clear e1 e2 e3 HK HS g1 g2
            by_cases e5 : x4 < x3
            · have HS2 := Lib.hid (HSt.out e5)
              have t5 : decide (x4 < x3) = true := decide_eq_true e5
              go_wp2
              refine ⟨⟨i + 1, by omega, by rw [HK2.out], by rw [HS2.out], by go_num, hall2.out, B4⟩, ?_⟩
              simp [intOf]; omega
            · have HS2 := Lib.hid (HSf.out e5)
              have t5 : decide (x4 < x3) = false := decide_eq_false e5
              go_wp2
              refine ⟨⟨i + 1, by omega, by rw [HK2.out], by rw [HS2.out], by go_num, hall2.out, B4⟩, ?_⟩
              simp [intOf]; omega
          have t4 : decide (0 < x4) = true := decide_eq_true e4
          cases si
          · have HK2 : Hid (okR f (i + 1) = oi) := Lib.hid (by rw [HK.out, decide_eq_true g1, decide_eq_true g2, decide_eq_true e3]; simp)
            clear e1 e2 e3 HK HS g1 g2
            by_cases e5 : x4 < x3
            · have HS2 := Lib.hid (HSt.out e5)
              have t5 : decide (x4 < x3) = true := decide_eq_true e5
              go_wp2
              refine ⟨⟨i + 1, by omega, by rw [HK2.out], by rw [HS2.out], by go_num, hall2.out, B4⟩, ?_⟩
              simp [intOf]; omega
            · have HS2 := Lib.hid (HSf.out e5)
              have t5 : decide (x4 < x3) = false := decide_eq_false e5
              go_wp2
              refine ⟨⟨i + 1, by omega, by rw [HK2.out], by rw [HS2.out], by go_num, hall2.out, B4⟩, ?_⟩
              simp [intOf]; omega
          · have HK2 : Hid (okR f (i + 1) = false) := Lib.hid (by rw [HK.out, decide_eq_true (show x4 ≠ 0 by omega)]; simp)
            clear e1 e2 e3 HK HS g1 g2
            by_cases e5 : x4 < x3
            · have HS2 := Lib.hid (HSt.out e5)
              have t5 : decide (x4 < x3) = true := decide_eq_true e5
              go_wp2
              refine ⟨⟨i + 1, by omega, by rw [HK2.out], by rw [HS2.out], by go_num, hall2.out, B4⟩, ?_⟩
              simp [intOf]; omega
            · have HS2 := Lib.hid (HSf.out e5)
              have t5 : decide (x4 < x3) = false := decide_eq_false e5
              go_wp2
              refine ⟨⟨i + 1, by omega, by rw [HK2.out], by rw [HS2.out], by go_num, hall2.out, B4⟩, ?_⟩
              simp [intOf]; omega
    · obtain rfl : n = i := by omega
      have hnl : ¬ (n : Int) < (n : Int) := by omega
      have hamt : ∀ i, i < n → amtB (f i).b = true ∧ amtB (f i).r = true ∧ amtB (f i).d = true ∧ amtB (f i).t = true ∧ amtB (f i).c = true := fun i hi => by
        have := hall i hi
        unfold amT at this
        simp only [Bool.and_eq_true] at this
        exact this
      have cR := aright_any A n c f wr (h1.below hB) (by omega) hamt (okR f n) rfl
      have HAMT := Lib.hid hamt
      have h2 := h1.below hB
      have hT2 := hT1.below hB
      have B2 := below_step B1 hB B1.size
      clear hamt hall hT1 h1 hB
      generalize okR f n = ok at *
      have hoo : (ok != ok) = false := by cases ok <;> rfl
      go_wp2_with (fail)
      with_reducible refine cR.mono ?_
      rintro e w3 ⟨rfl, NB⟩
      have h3 := h2.below NB
      have hT3 := hT2.below NB
      have B3 := below_step B2 NB B2.size
      clear cR NB h2 hT2 B2
      go_wp2
      go_loopw [90] (fun k W => ∃ i : Nat, i ≤ n ∧ k = .int .i64 i ∧ Below w3.heap.size w3 W) (fun k _ => n - (intOf k).toNat)
      case atStart => exact ⟨0, Nat.zero_le _, rfl, Below.refl _ _⟩
      case round =>
        obtain ⟨i, hi, rfl, hB⟩ := hrel
        by_cases hlt : i < n
        · obtain ⟨b, o, rfl, hc⟩ := id (h3 (by omega))
          obtain ⟨c0, c1, c2, c3, c4, c5⟩ := (hc i hlt).below hB
          have hil : (i : Int) < (n : Int) := by omega
          obtain ⟨a1, a2, a3, a4, a5⟩ := HAMT.out i hlt
          have cL := fun W h => line_any (f i) W h (HFF.out i hlt)
          unfold Tkn.v LineP at cL
          clear hc a3
          generalize (f i).o = x0 at *
          generalize (f i).b = x1 at *
          generalize (f i).r = x2 at *
          generalize (f i).d = x3 at *
          generalize (f i).t = x4 at *
          generalize (f i).c = x5 at *
          have KB := bx_new wr [.int .i64 x0, .int .i64 x1, .int .i64 x2, .int .i64 x3, .int .i64 x4, .int .i64 x5] 36
          have NB := below_new wr (.cells #[.int .i64 x0, .int .i64 x1, .int .i64 x2, .int .i64 x3, .int .i64 x4, .int .i64 x5] 36)
          have B4 := below_step hB NB hB.size
          have hT4 := hT3.below B4
          have k0 := KB.cell (i := 0) rfl
          have k1 := KB.cell (i := 1) rfl
          have k2 := KB.cell (i := 2) rfl
          have k3 := KB.cell (i := 3) rfl
          have k4 := KB.cell (i := 4) rfl
          have k5 := KB.cell (i := 5) rfl
          go_wp2_with (fail)
          with_reducible refine (cL _ hT4).mono ?_
          rintro e w6 ⟨lb, rfl, KL, _, NB6⟩
          replace KB := KB.below NB6
          have B6 := below_step B4 NB6 B4.size
          clear c0 c1 c2 c3 c4 c5 k0 k1 k2 k3 k4 k5 NB NB6 hT4 cL
          generalize wr.heap.size = tb at *
          go_wp2
          go_loopw [97] (fun k X => ∃ j : Nat, j ≤ 4 ∧ k = .int .i64 j ∧ Below w6.heap.size w6 X) (fun k _ => 4 - (intOf k).toNat)
          case atStart => exact ⟨0, by omega, rfl, Below.refl _ _⟩
          case round =>
            obtain ⟨j, hj, rfl, hX⟩ := hrel
            have hj4 : j = 0 ∨ j = 1 ∨ j = 2 ∨ j = 3 ∨ j = 4 := by omega
            rcases hj4 with rfl | rfl | rfl | rfl | rfl
            · have lx := fun W => ix4_0 x1 x2 x4 x5 W
              have cP := fun W => parse_tx x1 W a1
              have l0 : wr.cell? ⟨lb, 0, none⟩ = some (.string ⟨(txt x1).toArray⟩) := (KL.below hX).cell (i := 0) rfl
              have t1 : (x1 != x1) = false := by simp
              generalize (⟨(txt x1).toArray⟩ : ByteArray) = tq at *
              clear a1 a2 a4 a5
              go_wp2_with (fail)
              with_reducible refine (cP _).mono ?_
              rintro e w7 ⟨rfl, NB7⟩
              have BX7 := below_step hX NB7 hX.size
              replace KB := KB.below BX7
              have k1 := KB.cell (i := 1) rfl
              have k2 := KB.cell (i := 2) rfl
              have k4 := KB.cell (i := 4) rfl
              have k5 := KB.cell (i := 5) rfl
              clear l0 cP
              go_wp2
              refine ⟨⟨1, by omega, rfl, BX7⟩, ?_⟩
              simp [intOf]
            · have lx := fun W => ix4_1 x1 x2 x4 x5 W
              have cP := fun W => parse_tx x2 W a2
              have l0 : wr.cell? ⟨lb, 1, none⟩ = some (.string ⟨(txt x2).toArray⟩) := (KL.below hX).cell (i := 1) rfl
              have t1 : (x2 != x2) = false := by simp
              generalize (⟨(txt x2).toArray⟩ : ByteArray) = tq at *
              clear a1 a2 a4 a5
              go_wp2_with (fail)
              with_reducible refine (cP _).mono ?_
              rintro e w7 ⟨rfl, NB7⟩
              have BX7 := below_step hX NB7 hX.size
              replace KB := KB.below BX7
              have k1 := KB.cell (i := 1) rfl
              have k2 := KB.cell (i := 2) rfl
              have k4 := KB.cell (i := 4) rfl
              have k5 := KB.cell (i := 5) rfl
              clear l0 cP
              go_wp2
              refine ⟨⟨2, by omega, rfl, BX7⟩, ?_⟩
              simp [intOf]
            · have lx := fun W => ix4_2 x1 x2 x4 x5 W
              have cP := fun W => parse_tx x4 W a4
              have l0 : wr.cell? ⟨lb, 2, none⟩ = some (.string ⟨(txt x4).toArray⟩) := (KL.below hX).cell (i := 2) rfl
              have t1 : (x4 != x4) = false := by simp
              generalize (⟨(txt x4).toArray⟩ : ByteArray) = tq at *
              clear a1 a2 a4 a5
              go_wp2_with (fail)
              with_reducible refine (cP _).mono ?_
              rintro e w7 ⟨rfl, NB7⟩
              have BX7 := below_step hX NB7 hX.size
              replace KB := KB.below BX7
              have k1 := KB.cell (i := 1) rfl
              have k2 := KB.cell (i := 2) rfl
              have k4 := KB.cell (i := 4) rfl
              have k5 := KB.cell (i := 5) rfl
              clear l0 cP
              go_wp2
              refine ⟨⟨3, by omega, rfl, BX7⟩, ?_⟩
              simp [intOf]
            · have lx := fun W => ix4_3 x1 x2 x4 x5 W
              have cP := fun W => parse_tx x5 W a5
              have l0 : wr.cell? ⟨lb, 3, none⟩ = some (.string ⟨(txt x5).toArray⟩) := (KL.below hX).cell (i := 3) rfl
              have t1 : (x5 != x5) = false := by simp
              generalize (⟨(txt x5).toArray⟩ : ByteArray) = tq at *
              clear a1 a2 a4 a5
              go_wp2_with (fail)
              with_reducible refine (cP _).mono ?_
              rintro e w7 ⟨rfl, NB7⟩
              have BX7 := below_step hX NB7 hX.size
              replace KB := KB.below BX7
              have k1 := KB.cell (i := 1) rfl
              have k2 := KB.cell (i := 2) rfl
              have k4 := KB.cell (i := 4) rfl
              have k5 := KB.cell (i := 5) rfl
              clear l0 cP
              go_wp2
              refine ⟨⟨4, by omega, rfl, BX7⟩, ?_⟩
              simp [intOf]
            · have B7 := below_step B6 hX B6.size
              go_wp2
              refine ⟨⟨i + 1, by omega, by go_num, B7⟩, ?_⟩
              simp [intOf]; omega
        · obtain rfl : n = i := by omega
          have hnl : ¬ (n : Int) < (n : Int) := by omega
          have B9 := below_step B3 hB B3.size
          go_wp2
          go_ret
          exact ⟨rfl, B9⟩
theorem wAttachRight (A : Option Addr) (n c : Nat) (f : Nat → Tkn) (w : World) (hT : Tab w) (h : Tks w A n f) (hn : n ≤ 9223372036854775807) (hf : ∀ i, i < n → (f i).F) :
    Calls Tryd.prog 7 #[.slice A n c] w fun e w' => e = .returned (.bool true) ∧ Below w.heap.size w w' := by
  by_cases h40 : 40 < n
  · exact ari_long A n c f w hT h h40
  · exact ari_any A n c f w hT h (by omega) hf
end Go.Proofs.YtgdalejccbhjcaaDoor
