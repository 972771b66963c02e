/- ElementParses: any words are an element, or are none, and why. -/
import Derived.Test.YtobdbjmpoefebaaDoorEltJ
namespace Go.Proofs.YtobdbjmpoefebaaDoor
open Go.RowKit
set_option linter.unusedVariables false
set_option linter.unusedSimpArgs false

theorem rowS_below {w W : World} {A : Option Addr} {n : Nat} {f : Nat → ByteArray} (h : rowAt w A n fun i => .string (f i)) (hb : Below w.heap.size w W) : rowAt W A n fun i => .string (f i) := fun hn => by
  obtain ⟨b, o, e, hc⟩ := h hn
  exact ⟨b, o, e, fun i hi => cell_later hb (hc i hi)⟩
theorem eq_z (W : World) : (binOp .eql 45 (.agg #[.string ⟨#[]⟩, .int .i64 0, .int .i64 0]) (.agg #[.string ⟨#[]⟩, .int .i64 0, .int .i64 0])).run Tryd.prog W = .ok (.bool true) W := by
  simp [go_sem]
theorem eq_same (N : ByteArray) (a u : Int) (W : World) : (binOp .eql 45 (.agg #[.string N, .int .i64 a, .int .i64 u]) (.agg #[.string N, .int .i64 a, .int .i64 u])).run Tryd.prog W = .ok (.bool true) W := by
  simp [go_sem]
theorem eq_not (N : ByteArray) (a u : Int) (h : nameB N.data.toList = true) (W : World) : (binOp .eql 45 (.agg #[.string N, .int .i64 a, .int .i64 u]) (.agg #[.string ⟨#[]⟩, .int .i64 0, .int .i64 0])).run Tryd.prog W = .ok (.bool false) W := by
  have hs : 0 < N.size := by
    rcases Nat.eq_zero_or_pos N.size with h0 | h0
    · rw [nameB_empty h0] at h; cases h
    · exact h0
  have h1 : (N.toList == (ByteArray.mk #[]).toList) = false := str_b N ⟨#[]⟩ false (by
    rw [decide_eq_false_iff_not]
    intro e
    subst e
    exact absurd hs (by decide))
  have h2 : N ≠ ⟨#[]⟩ := fun e => by subst e; exact absurd hs (by decide)
  have h3 : N.toList ≠ [] := by simpa using h1
  simp [go_sem, h3]
theorem pre_none {s : ByteArray} (h : s.size = 0) : Lib.hasPrefix s.data.toList [120] = false := by
  rw [List.length_eq_zero_iff.1 (show s.data.toList.length = 0 by simp [h])]; rfl
theorem pre_at {s : ByteArray} (h : 0 < s.size) : Lib.hasPrefix s.data.toList [120] = decide ((s[0].toNat : Int) = 120) := by
  rw [cons_of s h]
  by_cases e : (s[0].toNat : Int) = 120
  · rw [decide_eq_true e]
    have : s[0] = 120 := byte_eq (by rw [e]; rfl)
    simp [Lib.hasPrefix, this]
  · rw [decide_eq_false e]
    have : s[0] ≠ 120 := fun q => e (by rw [q]; rfl)
    have h3 : ((120 : UInt8) == s[0]) = false := by simpa [beq_eq_false_iff_ne] using fun q => this q.symm
    unfold Lib.hasPrefix
    show ((120 : UInt8) == s[0] && List.isPrefixOf [] _) = false
    rw [h3]
    rfl
theorem trim_at {s : ByteArray} (h : Lib.hasPrefix s.data.toList [120] = true) : Lib.trimPrefix s.data.toList [120] = (s.extract 1 s.size).data.toList := by
  unfold Lib.trimPrefix
  rw [if_pos h, Lib.extract_to_end]
  rfl

set_option maxHeartbeats 4000000 in
set_option maxRecDepth 100000 in
theorem parses_many (A : Option Addr) (n c : Nat) (f : Nat → ByteArray) (w : World) (htab : Tab w) (hr : rowAt w A n fun i => .string (f i)) (h20 : 20 < n) :
    Calls Tryd.prog 7 #[.slice A n c] w fun e w' => e = .returned (.bool true) ∧ Below w.heap.size w w' := by
  have wo := worths_any w htab
  have t1 : (20 : Int) < n := by omega
  go_enter Tryd.func7, Tryd.ntmps7
  go_wp2_with (fail)
  refine wo.mono ?_
  rintro e w1 ⟨rfl, B1⟩
  have R1 := rowS_below hr B1
  clear wo hr htab
  go_wp2
  go_ret
  exact ⟨rfl, B1⟩
set_option maxHeartbeats 4000000 in
set_option maxRecDepth 100000 in
theorem parses_long (A : Option Addr) (n c : Nat) (f : Nat → ByteArray) (w : World) (htab : Tab w) (hr : rowAt w A n fun i => .string (f i)) (h20 : n ≤ 20) (hl : ∃ i, i < n ∧ 100 < (f i).size) :
    Calls Tryd.prog 7 #[.slice A n c] w fun e w' => e = .returned (.bool true) ∧ Below w.heap.size w w' := by
  have wo := worths_any w htab
  have t1 : ¬ (20 : Int) < n := by omega
  have t2 : decide ((20 : Int) < n) = false := by rw [decide_eq_false_iff_not]; exact t1
  have HL := Lib.hid hl
  clear hl
  go_enter Tryd.func7, Tryd.ntmps7
  go_wp2_with (fail)
  refine wo.mono ?_
  rintro e w1 ⟨rfl, B1⟩
  have R1 := rowS_below hr B1
  clear wo hr htab
  go_wp2
  go_loop [20] (fun i => ∃ j : Nat, j ≤ n ∧ i = .int .i64 j ∧ Hid (∃ i, j ≤ i ∧ i < n ∧ 100 < (f i).size)) (fun i => n - (intOf i).toNat)
  case atStart =>
    obtain ⟨i, h1, h2⟩ := HL.out
    exact ⟨0, Nat.zero_le _, rfl, Lib.hid ⟨i, Nat.zero_le _, h1, h2⟩⟩
  case round =>
    obtain ⟨j, hj, rfl, HI⟩ := hrel
    have hlt : j < n := by obtain ⟨i, h1, h2, _⟩ := HI.out; omega
    obtain ⟨b, o, rfl, hc⟩ := R1 (by omega)
    have cj : w1.cell? ⟨b, o + j, none⟩ = some (.string (f j)) := hc j hlt
    have hlt2 : (j : Int) < (n : Int) := by omega
    clear hc
    by_cases hs : 100 < (f j).size
    · have tj : (100 : Int) < ((f j).size : Int) := by omega
      generalize f j = s at *
      go_wp2
      go_ret
      exact ⟨rfl, B1⟩
    · have tj : ¬ (100 : Int) < ((f j).size : Int) := by omega
      have uj : decide ((100 : Int) < ((f j).size : Int)) = false := by rw [decide_eq_false_iff_not]; exact tj
      have HI2 : Hid (∃ i, j + 1 ≤ i ∧ i < n ∧ 100 < (f i).size) := Lib.hid (by
        obtain ⟨i, h1, h2, h3⟩ := HI.out
        refine ⟨i, ?_, h2, h3⟩
        rcases Nat.lt_or_ge j i with q | q
        · exact q
        · obtain rfl : i = j := by omega
          exact absurd h3 hs)
      clear HI hs
      generalize f j = s at *
      go_wp2
      go_round
      case rel => exact ⟨j + 1, by omega, by go_num, HI2⟩
      case measure => first | omega | (simp [intOf]; omega)
set_option maxHeartbeats 4000000 in
set_option maxRecDepth 100000 in
theorem parses_few (A : Option Addr) (n c : Nat) (f : Nat → ByteArray) (w : World) (htab : Tab w) (hr : rowAt w A n fun i => .string (f i)) (h20 : n ≤ 20) (hs : ∀ i, i < n → (f i).size ≤ 100) (h2 : n < 2) :
    Calls Tryd.prog 7 #[.slice A n c] w fun e w' => e = .returned (.bool true) ∧ Below w.heap.size w w' := by
  have wo := worths_any w htab
  have t1 : ¬ (20 : Int) < n := by omega
  have t2 : decide ((20 : Int) < n) = false := by rw [decide_eq_false_iff_not]; exact t1
  have t3 : (n : Int) < 2 := by omega
  have q2 : n ≠ 2 := by omega
  have q3 : n ≠ 3 := by omega
  have pe := fun W => pe_many A n c f W q2 q3
  unfold eZ at pe
  have ez := eq_z
  have HS := Lib.hid hs
  clear hs q2 q3
  go_enter Tryd.func7, Tryd.ntmps7
  go_wp2_with (fail)
  refine wo.mono ?_
  rintro e w1 ⟨rfl, B1⟩
  have R1 := rowS_below hr B1
  clear wo hr htab
  go_wp2
  go_loop [20] (fun i => ∃ j : Nat, j ≤ n ∧ i = .int .i64 j) (fun i => n - (intOf i).toNat)
  case atStart => exact ⟨0, Nat.zero_le _, rfl⟩
  case round =>
    obtain ⟨j, hj, rfl⟩ := hrel
    by_cases hlt : j < n
    · obtain ⟨b, o, rfl, hq⟩ := id (R1 (by omega))
      have cj := cell_ofR R1 hlt
      clear hq
      have sj := HS.out j hlt
      have tj : ¬ (100 : Int) < ((f j).size : Int) := by omega
      have uj : decide ((100 : Int) < ((f j).size : Int)) = false := by rw [decide_eq_false_iff_not]; exact tj
      have hlt2 : (j : Int) < (n : Int) := by omega
      generalize f j = s at *
      go_wp2
      go_round
      case rel => exact ⟨j + 1, by omega, by go_num⟩
      case measure => first | omega | (simp [intOf]; omega)
    · have hj2 : n = j := by omega
      subst hj2
      clear HS
      go_wp2_with (fail)
      refine (pe _).mono ?_
      rintro e w2 ⟨rfl, hb⟩
      have B2 := below_step B1 hb B1.size
      go_wp2
      go_ret
      exact ⟨rfl, B2.alloc B2.size _⟩
set_option maxHeartbeats 4000000 in
set_option maxRecDepth 100000 in
theorem parses_more (A : Option Addr) (n c : Nat) (f : Nat → ByteArray) (w : World) (htab : Tab w) (hr : rowAt w A n fun i => .string (f i)) (h20 : n ≤ 20) (hs : ∀ i, i < n → (f i).size ≤ 100) (h2 : 3 < n) :
    Calls Tryd.prog 7 #[.slice A n c] w fun e w' => e = .returned (.bool true) ∧ Below w.heap.size w w' := by
  have wo := worths_any w htab
  have t1 : ¬ (20 : Int) < n := by omega
  have t2 : decide ((20 : Int) < n) = false := by rw [decide_eq_false_iff_not]; exact t1
  have t3 : ¬ (n : Int) < 2 := by omega
  have t4 : (3 : Int) < n := by omega
  have q2 : n ≠ 2 := by omega
  have q3 : n ≠ 3 := by omega
  have pe := fun W => pe_many A n c f W q2 q3
  unfold eZ at pe
  have ez := eq_z
  have HS := Lib.hid hs
  clear hs q2 q3
  go_enter Tryd.func7, Tryd.ntmps7
  go_wp2_with (fail)
  refine wo.mono ?_
  rintro e w1 ⟨rfl, B1⟩
  have R1 := rowS_below hr B1
  clear wo hr htab
  go_wp2
  go_loop [20] (fun i => ∃ j : Nat, j ≤ n ∧ i = .int .i64 j) (fun i => n - (intOf i).toNat)
  case atStart => exact ⟨0, Nat.zero_le _, rfl⟩
  case round =>
    obtain ⟨j, hj, rfl⟩ := hrel
    by_cases hlt : j < n
    · obtain ⟨b, o, rfl, hq⟩ := id (R1 (by omega))
      have cj := cell_ofR R1 hlt
      clear hq
      have sj := HS.out j hlt
      have tj : ¬ (100 : Int) < ((f j).size : Int) := by omega
      have uj : decide ((100 : Int) < ((f j).size : Int)) = false := by rw [decide_eq_false_iff_not]; exact tj
      have hlt2 : (j : Int) < (n : Int) := by omega
      generalize f j = s at *
      go_wp2
      go_round
      case rel => exact ⟨j + 1, by omega, by go_num⟩
      case measure => first | omega | (simp [intOf]; omega)
    · have hj2 : n = j := by omega
      subst hj2
      clear HS
      go_wp2_with (fail)
      refine (pe _).mono ?_
      rintro e w2 ⟨rfl, hb⟩
      have B2 := below_step B1 hb B1.size
      go_wp2
      go_ret
      exact ⟨rfl, B2.alloc B2.size _⟩
set_option maxHeartbeats 4000000 in
set_option maxRecDepth 100000 in
theorem parses_noname2 (A : Option Addr) (c : Nat) (f : Nat → ByteArray) (w : World) (htab : Tab w) (hr : rowAt w A 2 fun i => .string (f i)) (hs : ∀ i, i < 2 → (f i).size ≤ 100) (hn : nameB (f 0).data.toList = false) :
    Calls Tryd.prog 7 #[.slice A 2 c] w fun e w' => e = .returned (.bool true) ∧ Below w.heap.size w w' := by
  have wo := worths_any w htab
  obtain ⟨b, o, rfl, hc⟩ := id (hr (by omega))
  have c0 : w.cell? ⟨b, o, none⟩ = some (.string (f 0)) := hc 0 (by omega)
  have c1 : w.cell? ⟨b, o + 1, none⟩ = some (.string (f 1)) := hc 1 (by omega)
  have hf : ∀ i, i < 2 → (f i).size ≤ 281474976710656 := fun i hi => by have := hs i hi; omega
  have z0 := hs 0 (by omega)
  have z1 := hs 1 (by omega)
  have pe := fun W (h : rowAt W (some ⟨b, o, none⟩) 2 fun i => .string (f i)) => pe_noname2 (some ⟨b, o, none⟩) c f W h hf hn
  unfold eZ at pe
  have ez := eq_z
  have nm := fun w => name_b (f 0) false hn w (by omega)
  clear hn
  have HS := Lib.hid hs
  clear hc hs hf
  go_enter Tryd.func7, Tryd.ntmps7
  go_wp2_with (fail)
  refine wo.mono ?_
  rintro e w1 ⟨rfl, B1⟩
  have R1 := rowS_below hr B1
  clear wo hr htab
  go_wp2
  go_loop [20] (fun i => ∃ j : Nat, j ≤ 2 ∧ i = .int .i64 j) (fun i => 2 - (intOf i).toNat)
  case atStart => exact ⟨0, Nat.zero_le _, rfl⟩
  case round =>
    obtain ⟨j, hj, rfl⟩ := hrel
    by_cases hlt : j < 2
    · have cj := cell_ofR R1 hlt
      have sj := HS.out j hlt
      have tj : ¬ (100 : Int) < ((f j).size : Int) := by omega
      have uj : decide ((100 : Int) < ((f j).size : Int)) = false := by rw [decide_eq_false_iff_not]; exact tj
      have hlt2 : (j : Int) < (2 : Int) := by omega
      generalize f j = s at *
      go_wp2
      go_round
      case rel => exact ⟨j + 1, by omega, by go_num⟩
      case measure => first | omega | (simp [intOf]; omega)
    · have hj2 : 2 = j := by omega
      subst hj2
      go_wp2_with (fail)
      refine (pe _ R1).mono ?_
      rintro e w2 ⟨rfl, hb⟩
      have B2 := below_step B1 hb B1.size
      have d0 := cell_later hb (cell_later B1 c0)
      have d1 := cell_later hb (cell_later B1 c1)
      have bn := below_new w2 (.cells #[.string ⟨#[]⟩, .int .i64 0, .int .i64 0] 45)
      have B3 := below_step B2 bn B2.size
      have g0 := cell_later bn d0
      have g1 := cell_later bn d1
      clear R1 HS B1 B2 hb pe c0 c1
      go_wp2_with (fail)
      refine (nm _).mono ?_
      rintro e w' ⟨rfl, rfl⟩
      go_wp2
      go_ret
      exact ⟨rfl, B3⟩
set_option maxHeartbeats 4000000 in
set_option maxRecDepth 100000 in
theorem parses_noamount2 (A : Option Addr) (c : Nat) (f : Nat → ByteArray) (w : World) (htab : Tab w) (hr : rowAt w A 2 fun i => .string (f i)) (hs : ∀ i, i < 2 → (f i).size ≤ 100) (hn : nameB (f 0).data.toList = true) (he : pelE f ≠ 0) :
    Calls Tryd.prog 7 #[.slice A 2 c] w fun e w' => e = .returned (.bool true) ∧ Below w.heap.size w w' := by
  have wo := worths_any w htab
  obtain ⟨b, o, rfl, hc⟩ := id (hr (by omega))
  have c0 : w.cell? ⟨b, o, none⟩ = some (.string (f 0)) := hc 0 (by omega)
  have c1 : w.cell? ⟨b, o + 1, none⟩ = some (.string (f 1)) := hc 1 (by omega)
  have hf : ∀ i, i < 2 → (f i).size ≤ 281474976710656 := fun i hi => by have := hs i hi; omega
  have z0 := hs 0 (by omega)
  have z1 := hs 1 (by omega)
  have pe := fun W (h : rowAt W (some ⟨b, o, none⟩) 2 fun i => .string (f i)) => pe_noamount2 (some ⟨b, o, none⟩) c f W h hf hn he
  unfold eZ at pe
  have ez := eq_z
  have nm := fun w => name_b (f 0) true hn w (by omega)
  have pa := fun w => parse_any (f 1) w (by omega)
  unfold pelE at *
  generalize parseP (f 1).data.toList = q at *
  obtain ⟨x, y⟩ := q
  simp only [] at pa he pe
  have ty : (y != 0) = true := by simpa using he
  clear hn he
  have HS := Lib.hid hs
  clear hc hs hf
  go_enter Tryd.func7, Tryd.ntmps7
  go_wp2_with (fail)
  refine wo.mono ?_
  rintro e w1 ⟨rfl, B1⟩
  have R1 := rowS_below hr B1
  clear wo hr htab
  go_wp2
  go_loop [20] (fun i => ∃ j : Nat, j ≤ 2 ∧ i = .int .i64 j) (fun i => 2 - (intOf i).toNat)
  case atStart => exact ⟨0, Nat.zero_le _, rfl⟩
  case round =>
    obtain ⟨j, hj, rfl⟩ := hrel
    by_cases hlt : j < 2
    · have cj := cell_ofR R1 hlt
      have sj := HS.out j hlt
      have tj : ¬ (100 : Int) < ((f j).size : Int) := by omega
      have uj : decide ((100 : Int) < ((f j).size : Int)) = false := by rw [decide_eq_false_iff_not]; exact tj
      have hlt2 : (j : Int) < (2 : Int) := by omega
      generalize f j = s at *
      go_wp2
      go_round
      case rel => exact ⟨j + 1, by omega, by go_num⟩
      case measure => first | omega | (simp [intOf]; omega)
    · have hj2 : 2 = j := by omega
      subst hj2
      go_wp2_with (fail)
      refine (pe _ R1).mono ?_
      rintro e w2 ⟨rfl, hb⟩
      have B2 := below_step B1 hb B1.size
      have d0 := cell_later hb (cell_later B1 c0)
      have d1 := cell_later hb (cell_later B1 c1)
      have bn := below_new w2 (.cells #[.string ⟨#[]⟩, .int .i64 0, .int .i64 0] 45)
      have B3 := below_step B2 bn B2.size
      have g0 := cell_later bn d0
      have g1 := cell_later bn d1
      clear R1 HS B1 B2 hb pe c0 c1
      go_wp2_with (fail)
      refine (nm _).mono ?_
      rintro e w' ⟨rfl, rfl⟩
      go_wp2_with (fail)
      refine (pa _).mono ?_
      rintro e w4 ⟨rfl, hb4⟩
      have B4 := below_step B3 hb4 B3.size
      go_wp2
      go_ret
      exact ⟨rfl, B4⟩
set_option maxHeartbeats 4000000 in
set_option maxRecDepth 100000 in
theorem parses_two (A : Option Addr) (c : Nat) (f : Nat → ByteArray) (w : World) (htab : Tab w) (hr : rowAt w A 2 fun i => .string (f i)) (hs : ∀ i, i < 2 → (f i).size ≤ 100) (hn : nameB (f 0).data.toList = true) (he : pelE f = 0) :
    Calls Tryd.prog 7 #[.slice A 2 c] w fun e w' => e = .returned (.bool true) ∧ Below w.heap.size w w' := by
  have wo := worths_any w htab
  obtain ⟨b, o, rfl, hc⟩ := id (hr (by omega))
  have c0 : w.cell? ⟨b, o, none⟩ = some (.string (f 0)) := hc 0 (by omega)
  have c1 : w.cell? ⟨b, o + 1, none⟩ = some (.string (f 1)) := hc 1 (by omega)
  have hf : ∀ i, i < 2 → (f i).size ≤ 281474976710656 := fun i hi => by have := hs i hi; omega
  have z0 := hs 0 (by omega)
  have z1 := hs 1 (by omega)
  have pe := fun W (h : rowAt W (some ⟨b, o, none⟩) 2 fun i => .string (f i)) => pe_two (some ⟨b, o, none⟩) c f W h hf hn he
  have en := fun a W => eq_not (f 0) a 100 hn W
  have es := fun a W => eq_same (f 0) a 100 W
  have nm := fun w => name_b (f 0) true hn w (by omega)
  have pa := fun w => parse_any (f 1) w (by omega)
  unfold pelE at *
  unfold pelA at *
  generalize parseP (f 1).data.toList = q at *
  obtain ⟨x, y⟩ := q
  simp only [] at pa he pe
  subst he
  have en := en x
  have es := es x
  clear hn
  have HS := Lib.hid hs
  clear hc hs hf
  go_enter Tryd.func7, Tryd.ntmps7
  go_wp2_with (fail)
  refine wo.mono ?_
  rintro e w1 ⟨rfl, B1⟩
  have R1 := rowS_below hr B1
  clear wo hr htab
  go_wp2
  go_loop [20] (fun i => ∃ j : Nat, j ≤ 2 ∧ i = .int .i64 j) (fun i => 2 - (intOf i).toNat)
  case atStart => exact ⟨0, Nat.zero_le _, rfl⟩
  case round =>
    obtain ⟨j, hj, rfl⟩ := hrel
    by_cases hlt : j < 2
    · have cj := cell_ofR R1 hlt
      have sj := HS.out j hlt
      have tj : ¬ (100 : Int) < ((f j).size : Int) := by omega
      have uj : decide ((100 : Int) < ((f j).size : Int)) = false := by rw [decide_eq_false_iff_not]; exact tj
      have hlt2 : (j : Int) < (2 : Int) := by omega
      generalize f j = s at *
      go_wp2
      go_round
      case rel => exact ⟨j + 1, by omega, by go_num⟩
      case measure => first | omega | (simp [intOf]; omega)
    · have hj2 : 2 = j := by omega
      subst hj2
      go_wp2_with (fail)
      refine (pe _ R1).mono ?_
      rintro e w2 ⟨rfl, hb⟩
      have B2 := below_step B1 hb B1.size
      have d0 := cell_later hb (cell_later B1 c0)
      have d1 := cell_later hb (cell_later B1 c1)
      have bn := below_new w2 (.cells #[.string (f 0), .int .i64 x, .int .i64 100] 45)
      have B3 := below_step B2 bn B2.size
      have g0 := cell_later bn d0
      have g1 := cell_later bn d1
      clear R1 HS B1 B2 hb pe c0 c1
      have XB := trip_new w2 (.string (f 0)) (.int .i64 x) (.int .i64 100) 45
      go_wp2_with (fail)
      refine (nm _).mono ?_
      rintro e w' ⟨rfl, rfl⟩
      go_wp2_with (fail)
      refine (pa _).mono ?_
      rintro e w4 ⟨rfl, hb4⟩
      have B4 := below_step B3 hb4 B3.size
      have XB4 := XB.below hb4
      have x0 : w4.cell? ⟨w2.heap.size, 0, none⟩ = some (.string (f 0)) := XB4.cell (by omega)
      have x1 : w4.cell? ⟨w2.heap.size, 1, none⟩ = some (.int .i64 x) := XB4.cell (by omega)
      have x2 : w4.cell? ⟨w2.heap.size, 2, none⟩ = some (.int .i64 100) := XB4.cell (by omega)
      have h0 := cell_later hb4 g0
      go_wp2
      go_quiet (fail)
      go_wp2
      go_ret
      exact ⟨rfl, below_drewN B4 _⟩
set_option maxHeartbeats 4000000 in
set_option maxRecDepth 100000 in
theorem parses_noname3 (A : Option Addr) (c : Nat) (f : Nat → ByteArray) (w : World) (htab : Tab w) (hr : rowAt w A 3 fun i => .string (f i)) (hs : ∀ i, i < 3 → (f i).size ≤ 100) (hn : nameB (f 0).data.toList = false) :
    Calls Tryd.prog 7 #[.slice A 3 c] w fun e w' => e = .returned (.bool true) ∧ Below w.heap.size w w' := by
  have wo := worths_any w htab
  obtain ⟨b, o, rfl, hc⟩ := id (hr (by omega))
  have c0 : w.cell? ⟨b, o, none⟩ = some (.string (f 0)) := hc 0 (by omega)
  have c1 : w.cell? ⟨b, o + 1, none⟩ = some (.string (f 1)) := hc 1 (by omega)
  have c2 : w.cell? ⟨b, o + 2, none⟩ = some (.string (f 2)) := hc 2 (by omega)
  have hf : ∀ i, i < 3 → (f i).size ≤ 281474976710656 := fun i hi => by have := hs i hi; omega
  have z0 := hs 0 (by omega)
  have z1 := hs 1 (by omega)
  have z2 := hs 2 (by omega)
  have pe := fun W (h : rowAt W (some ⟨b, o, none⟩) 3 fun i => .string (f i)) => pe_noname3 (some ⟨b, o, none⟩) c f W h hf hn
  unfold eZ at pe
  have ez := eq_z
  have nm := fun w => name_b (f 0) false hn w (by omega)
  clear hn
  have HS := Lib.hid hs
  clear hc hs hf
  go_enter Tryd.func7, Tryd.ntmps7
  go_wp2_with (fail)
  refine wo.mono ?_
  rintro e w1 ⟨rfl, B1⟩
  have R1 := rowS_below hr B1
  clear wo hr htab
  go_wp2
  go_loop [20] (fun i => ∃ j : Nat, j ≤ 3 ∧ i = .int .i64 j) (fun i => 3 - (intOf i).toNat)
  case atStart => exact ⟨0, Nat.zero_le _, rfl⟩
  case round =>
    obtain ⟨j, hj, rfl⟩ := hrel
    by_cases hlt : j < 3
    · have cj := cell_ofR R1 hlt
      have sj := HS.out j hlt
      have tj : ¬ (100 : Int) < ((f j).size : Int) := by omega
      have uj : decide ((100 : Int) < ((f j).size : Int)) = false := by rw [decide_eq_false_iff_not]; exact tj
      have hlt2 : (j : Int) < (3 : Int) := by omega
      generalize f j = s at *
      go_wp2
      go_round
      case rel => exact ⟨j + 1, by omega, by go_num⟩
      case measure => first | omega | (simp [intOf]; omega)
    · have hj2 : 3 = j := by omega
      subst hj2
      go_wp2_with (fail)
      refine (pe _ R1).mono ?_
      rintro e w2 ⟨rfl, hb⟩
      have B2 := below_step B1 hb B1.size
      have d0 := cell_later hb (cell_later B1 c0)
      have d1 := cell_later hb (cell_later B1 c1)
      have d2 := cell_later hb (cell_later B1 c2)
      have bn := below_new w2 (.cells #[.string ⟨#[]⟩, .int .i64 0, .int .i64 0] 45)
      have B3 := below_step B2 bn B2.size
      have g0 := cell_later bn d0
      have g1 := cell_later bn d1
      have g2 := cell_later bn d2
      clear R1 HS B1 B2 hb pe c0 c1 c2
      go_wp2_with (fail)
      refine (nm _).mono ?_
      rintro e w' ⟨rfl, rfl⟩
      go_wp2
      go_ret
      exact ⟨rfl, B3⟩
set_option maxHeartbeats 4000000 in
set_option maxRecDepth 100000 in
theorem parses_noamount3 (A : Option Addr) (c : Nat) (f : Nat → ByteArray) (w : World) (htab : Tab w) (hr : rowAt w A 3 fun i => .string (f i)) (hs : ∀ i, i < 3 → (f i).size ≤ 100) (hn : nameB (f 0).data.toList = true) (he : pelE f ≠ 0) :
    Calls Tryd.prog 7 #[.slice A 3 c] w fun e w' => e = .returned (.bool true) ∧ Below w.heap.size w w' := by
  have wo := worths_any w htab
  obtain ⟨b, o, rfl, hc⟩ := id (hr (by omega))
  have c0 : w.cell? ⟨b, o, none⟩ = some (.string (f 0)) := hc 0 (by omega)
  have c1 : w.cell? ⟨b, o + 1, none⟩ = some (.string (f 1)) := hc 1 (by omega)
  have c2 : w.cell? ⟨b, o + 2, none⟩ = some (.string (f 2)) := hc 2 (by omega)
  have hf : ∀ i, i < 3 → (f i).size ≤ 281474976710656 := fun i hi => by have := hs i hi; omega
  have z0 := hs 0 (by omega)
  have z1 := hs 1 (by omega)
  have z2 := hs 2 (by omega)
  have pe := fun W (h : rowAt W (some ⟨b, o, none⟩) 3 fun i => .string (f i)) => pe_noamount3 (some ⟨b, o, none⟩) c f W h hf hn he
  unfold eZ at pe
  have ez := eq_z
  have nm := fun w => name_b (f 0) true hn w (by omega)
  have pa := fun w => parse_any (f 1) w (by omega)
  unfold pelE at *
  generalize parseP (f 1).data.toList = q at *
  obtain ⟨x, y⟩ := q
  simp only [] at pa he pe
  have ty : (y != 0) = true := by simpa using he
  clear hn he
  have HS := Lib.hid hs
  clear hc hs hf
  go_enter Tryd.func7, Tryd.ntmps7
  go_wp2_with (fail)
  refine wo.mono ?_
  rintro e w1 ⟨rfl, B1⟩
  have R1 := rowS_below hr B1
  clear wo hr htab
  go_wp2
  go_loop [20] (fun i => ∃ j : Nat, j ≤ 3 ∧ i = .int .i64 j) (fun i => 3 - (intOf i).toNat)
  case atStart => exact ⟨0, Nat.zero_le _, rfl⟩
  case round =>
    obtain ⟨j, hj, rfl⟩ := hrel
    by_cases hlt : j < 3
    · have cj := cell_ofR R1 hlt
      have sj := HS.out j hlt
      have tj : ¬ (100 : Int) < ((f j).size : Int) := by omega
      have uj : decide ((100 : Int) < ((f j).size : Int)) = false := by rw [decide_eq_false_iff_not]; exact tj
      have hlt2 : (j : Int) < (3 : Int) := by omega
      generalize f j = s at *
      go_wp2
      go_round
      case rel => exact ⟨j + 1, by omega, by go_num⟩
      case measure => first | omega | (simp [intOf]; omega)
    · have hj2 : 3 = j := by omega
      subst hj2
      go_wp2_with (fail)
      refine (pe _ R1).mono ?_
      rintro e w2 ⟨rfl, hb⟩
      have B2 := below_step B1 hb B1.size
      have d0 := cell_later hb (cell_later B1 c0)
      have d1 := cell_later hb (cell_later B1 c1)
      have d2 := cell_later hb (cell_later B1 c2)
      have bn := below_new w2 (.cells #[.string ⟨#[]⟩, .int .i64 0, .int .i64 0] 45)
      have B3 := below_step B2 bn B2.size
      have g0 := cell_later bn d0
      have g1 := cell_later bn d1
      have g2 := cell_later bn d2
      clear R1 HS B1 B2 hb pe c0 c1 c2
      go_wp2_with (fail)
      refine (nm _).mono ?_
      rintro e w' ⟨rfl, rfl⟩
      go_wp2_with (fail)
      refine (pa _).mono ?_
      rintro e w4 ⟨rfl, hb4⟩
      have B4 := below_step B3 hb4 B3.size
      go_wp2
      go_ret
      exact ⟨rfl, B4⟩
set_option maxHeartbeats 4000000 in
set_option maxRecDepth 100000 in
theorem parses_empty (A : Option Addr) (c : Nat) (f : Nat → ByteArray) (w : World) (htab : Tab w) (hr : rowAt w A 3 fun i => .string (f i)) (hs : ∀ i, i < 3 → (f i).size ≤ 100) (hn : nameB (f 0).data.toList = true) (he : pelE f = 0) (h2 : (f 2).size = 0) (hu : (unP (f 2).data.toList).2 ≠ 0) :
    Calls Tryd.prog 7 #[.slice A 3 c] w fun e w' => e = .returned (.bool true) ∧ Below w.heap.size w w' := by
  have wo := worths_any w htab
  obtain ⟨b, o, rfl, hc⟩ := id (hr (by omega))
  have c0 : w.cell? ⟨b, o, none⟩ = some (.string (f 0)) := hc 0 (by omega)
  have c1 : w.cell? ⟨b, o + 1, none⟩ = some (.string (f 1)) := hc 1 (by omega)
  have c2 : w.cell? ⟨b, o + 2, none⟩ = some (.string (f 2)) := hc 2 (by omega)
  have hf : ∀ i, i < 3 → (f i).size ≤ 281474976710656 := fun i hi => by have := hs i hi; omega
  have z0 := hs 0 (by omega)
  have z1 := hs 1 (by omega)
  have z2 := hs 2 (by omega)
  have pe := fun W (h : rowAt W (some ⟨b, o, none⟩) 3 fun i => .string (f i)) => pe_nounits (some ⟨b, o, none⟩) c f W h hf hn he hu
  try unfold eZ at pe
  have ez := eq_z
  have en := fun a u W => eq_not (f 0) a u hn W
  have es := fun a u W => eq_same (f 0) a u W
  have nm := fun w => name_b (f 0) true hn w (by omega)
  have pa := fun w => parse_any (f 1) w (by omega)
  unfold pelE at *
  try unfold pelA at *
  generalize parseP (f 1).data.toList = q at *
  obtain ⟨x, y⟩ := q
  simp only [] at pa he pe
  subst he
  clear hn
  have e5 : (unP (f 2).data.toList).2 = 5 := by unfold unP; rw [pre_none h2]; rfl
  rw [e5] at pe
  have te := toList_none (f 2) h2
  clear h2 e5 hu en es
  have HS := Lib.hid hs
  clear hc hs hf
  go_enter Tryd.func7, Tryd.ntmps7
  go_wp2_with (fail)
  refine wo.mono ?_
  rintro e w1 ⟨rfl, B1⟩
  have R1 := rowS_below hr B1
  clear wo hr htab
  go_wp2
  go_loop [20] (fun i => ∃ j : Nat, j ≤ 3 ∧ i = .int .i64 j) (fun i => 3 - (intOf i).toNat)
  case atStart => exact ⟨0, Nat.zero_le _, rfl⟩
  case round =>
    obtain ⟨j, hj, rfl⟩ := hrel
    by_cases hlt : j < 3
    · have cj := cell_ofR R1 hlt
      have sj := HS.out j hlt
      have tj : ¬ (100 : Int) < ((f j).size : Int) := by omega
      have uj : decide ((100 : Int) < ((f j).size : Int)) = false := by rw [decide_eq_false_iff_not]; exact tj
      have hlt2 : (j : Int) < (3 : Int) := by omega
      generalize f j = s at *
      go_wp2
      go_round
      case rel => exact ⟨j + 1, by omega, by go_num⟩
      case measure => first | omega | (simp [intOf]; omega)
    · have hj2 : 3 = j := by omega
      subst hj2
      go_wp2_with (fail)
      refine (pe _ R1).mono ?_
      rintro e w2 ⟨rfl, hb⟩
      have B2 := below_step B1 hb B1.size
      have d0 := cell_later hb (cell_later B1 c0)
      have d1 := cell_later hb (cell_later B1 c1)
      have d2 := cell_later hb (cell_later B1 c2)
      have bn := below_new w2 (.cells #[.string ⟨#[]⟩, .int .i64 0, .int .i64 0] 45)
      have B3 := below_step B2 bn B2.size
      have g0 := cell_later bn d0
      have g1 := cell_later bn d1
      have g2 := cell_later bn d2
      clear R1 HS B1 B2 hb pe c0 c1 c2
      go_wp2_with (fail)
      refine (nm _).mono ?_
      rintro e w' ⟨rfl, rfl⟩
      go_wp2_with (fail)
      refine (pa _).mono ?_
      rintro e w4 ⟨rfl, hb4⟩
      have B4 := below_step B3 hb4 B3.size
      have h0 := cell_later hb4 g0
      have h2 := cell_later hb4 g2
      go_wp2
      go_ret
      exact ⟨rfl, B4⟩
set_option maxHeartbeats 4000000 in
set_option maxRecDepth 100000 in
theorem parses_nox (A : Option Addr) (c : Nat) (f : Nat → ByteArray) (w : World) (htab : Tab w) (hr : rowAt w A 3 fun i => .string (f i)) (hs : ∀ i, i < 3 → (f i).size ≤ 100) (hn : nameB (f 0).data.toList = true) (he : pelE f = 0) (h2 : 0 < (f 2).size) (hx : ((f 2)[0].toNat : Int) ≠ 120) (hu : (unP (f 2).data.toList).2 ≠ 0) :
    Calls Tryd.prog 7 #[.slice A 3 c] w fun e w' => e = .returned (.bool true) ∧ Below w.heap.size w w' := by
  have wo := worths_any w htab
  obtain ⟨b, o, rfl, hc⟩ := id (hr (by omega))
  have c0 : w.cell? ⟨b, o, none⟩ = some (.string (f 0)) := hc 0 (by omega)
  have c1 : w.cell? ⟨b, o + 1, none⟩ = some (.string (f 1)) := hc 1 (by omega)
  have c2 : w.cell? ⟨b, o + 2, none⟩ = some (.string (f 2)) := hc 2 (by omega)
  have hf : ∀ i, i < 3 → (f i).size ≤ 281474976710656 := fun i hi => by have := hs i hi; omega
  have z0 := hs 0 (by omega)
  have z1 := hs 1 (by omega)
  have z2 := hs 2 (by omega)
  have pe := fun W (h : rowAt W (some ⟨b, o, none⟩) 3 fun i => .string (f i)) => pe_nounits (some ⟨b, o, none⟩) c f W h hf hn he hu
  try unfold eZ at pe
  have ez := eq_z
  have en := fun a u W => eq_not (f 0) a u hn W
  have es := fun a u W => eq_same (f 0) a u W
  have nm := fun w => name_b (f 0) true hn w (by omega)
  have pa := fun w => parse_any (f 1) w (by omega)
  unfold pelE at *
  try unfold pelA at *
  generalize parseP (f 1).data.toList = q at *
  obtain ⟨x, y⟩ := q
  simp only [] at pa he pe
  subst he
  clear hn
  have e5 : (unP (f 2).data.toList).2 = 5 := by unfold unP; rw [pre_at h2, decide_eq_false hx]; rfl
  rw [e5] at pe
  have te := toList_some (f 2) h2
  have g2 : (0 : Int) < (f 2).size := by omega
  have tx : (((f 2)[0].toNat : Int) != 120) = true := by simpa using hx
  clear e5 hu hx en es
  have HS := Lib.hid hs
  clear hc hs hf
  go_enter Tryd.func7, Tryd.ntmps7
  go_wp2_with (fail)
  refine wo.mono ?_
  rintro e w1 ⟨rfl, B1⟩
  have R1 := rowS_below hr B1
  clear wo hr htab
  go_wp2
  go_loop [20] (fun i => ∃ j : Nat, j ≤ 3 ∧ i = .int .i64 j) (fun i => 3 - (intOf i).toNat)
  case atStart => exact ⟨0, Nat.zero_le _, rfl⟩
  case round =>
    obtain ⟨j, hj, rfl⟩ := hrel
    by_cases hlt : j < 3
    · have cj := cell_ofR R1 hlt
      have sj := HS.out j hlt
      have tj : ¬ (100 : Int) < ((f j).size : Int) := by omega
      have uj : decide ((100 : Int) < ((f j).size : Int)) = false := by rw [decide_eq_false_iff_not]; exact tj
      have hlt2 : (j : Int) < (3 : Int) := by omega
      generalize f j = s at *
      go_wp2
      go_round
      case rel => exact ⟨j + 1, by omega, by go_num⟩
      case measure => first | omega | (simp [intOf]; omega)
    · have hj2 : 3 = j := by omega
      subst hj2
      go_wp2_with (fail)
      refine (pe _ R1).mono ?_
      rintro e w2 ⟨rfl, hb⟩
      have B2 := below_step B1 hb B1.size
      have d0 := cell_later hb (cell_later B1 c0)
      have d1 := cell_later hb (cell_later B1 c1)
      have d2 := cell_later hb (cell_later B1 c2)
      have bn := below_new w2 (.cells #[.string ⟨#[]⟩, .int .i64 0, .int .i64 0] 45)
      have B3 := below_step B2 bn B2.size
      have g0 := cell_later bn d0
      have g1 := cell_later bn d1
      have g2 := cell_later bn d2
      clear R1 HS B1 B2 hb pe c0 c1 c2
      go_wp2_with (fail)
      refine (nm _).mono ?_
      rintro e w' ⟨rfl, rfl⟩
      go_wp2_with (fail)
      refine (pa _).mono ?_
      rintro e w4 ⟨rfl, hb4⟩
      have B4 := below_step B3 hb4 B3.size
      have h0 := cell_later hb4 g0
      have h2 := cell_later hb4 g2
      go_wp2
      go_ret
      exact ⟨rfl, B4⟩
set_option maxHeartbeats 4000000 in
set_option maxRecDepth 100000 in
theorem parses_nounits (A : Option Addr) (c : Nat) (f : Nat → ByteArray) (w : World) (htab : Tab w) (hr : rowAt w A 3 fun i => .string (f i)) (hs : ∀ i, i < 3 → (f i).size ≤ 100) (hn : nameB (f 0).data.toList = true) (he : pelE f = 0) (h2 : 0 < (f 2).size) (hx : ((f 2)[0].toNat : Int) = 120) (hu : (unP (f 2).data.toList).2 ≠ 0) (hg : (parseP ((f 2).extract 1 (f 2).size).data.toList).2 ≠ 0) :
    Calls Tryd.prog 7 #[.slice A 3 c] w fun e w' => e = .returned (.bool true) ∧ Below w.heap.size w w' := by
  have wo := worths_any w htab
  obtain ⟨b, o, rfl, hc⟩ := id (hr (by omega))
  have c0 : w.cell? ⟨b, o, none⟩ = some (.string (f 0)) := hc 0 (by omega)
  have c1 : w.cell? ⟨b, o + 1, none⟩ = some (.string (f 1)) := hc 1 (by omega)
  have c2 : w.cell? ⟨b, o + 2, none⟩ = some (.string (f 2)) := hc 2 (by omega)
  have hf : ∀ i, i < 3 → (f i).size ≤ 281474976710656 := fun i hi => by have := hs i hi; omega
  have z0 := hs 0 (by omega)
  have z1 := hs 1 (by omega)
  have z2 := hs 2 (by omega)
  have pe := fun W (h : rowAt W (some ⟨b, o, none⟩) 3 fun i => .string (f i)) => pe_nounits (some ⟨b, o, none⟩) c f W h hf hn he hu
  try unfold eZ at pe
  have ez := eq_z
  have en := fun a u W => eq_not (f 0) a u hn W
  have es := fun a u W => eq_same (f 0) a u W
  have nm := fun w => name_b (f 0) true hn w (by omega)
  have pa := fun w => parse_any (f 1) w (by omega)
  unfold pelE at *
  try unfold pelA at *
  generalize parseP (f 1).data.toList = q at *
  obtain ⟨x, y⟩ := q
  simp only [] at pa he pe
  subst he
  clear hn
  have te := toList_some (f 2) h2
  have i2 : (0 : Int) < (f 2).size := by omega
  have i3 : (1 : Int) ≤ (f 2).size := by omega
  have tx : (((f 2)[0].toNat : Int) != 120) = false := by simpa using hx
  have hp : Lib.hasPrefix (f 2).data.toList [120] = true := by rw [pre_at h2, decide_eq_true hx]
  have ht := trim_at hp
  have zx : ((f 2).extract 1 (f 2).size).size ≤ 100 := by rw [ByteArray.size_extract]; omega
  have pu := fun w => parse_any ((f 2).extract 1 (f 2).size) w (by omega)
  have eu : unP (f 2).data.toList = (if (parseP ((f 2).extract 1 (f 2).size).data.toList).2 = 0 then (if oftB (parseP ((f 2).extract 1 (f 2).size).data.toList).1 = true then ((parseP ((f 2).extract 1 (f 2).size).data.toList).1, 0) else (0, 1)) else (0, (parseP ((f 2).extract 1 (f 2).size).data.toList).2)) := by unfold unP; rw [hp, if_neg (by decide), ht]
  rw [eu] at pe hu
  clear eu ht hp
  generalize parseP ((f 2).extract 1 (f 2).size).data.toList = q2 at *
  obtain ⟨uu, zz⟩ := q2
  simp only [] at pe pu hu hg
  have tz : (zz != 0) = true := by simpa using hg
  rw [if_neg hg] at pe
  simp only [] at pe
  clear hg hu hx en es
  have HS := Lib.hid hs
  clear hc hs hf
  go_enter Tryd.func7, Tryd.ntmps7
  go_wp2_with (fail)
  refine wo.mono ?_
  rintro e w1 ⟨rfl, B1⟩
  have R1 := rowS_below hr B1
  clear wo hr htab
  go_wp2
  go_loop [20] (fun i => ∃ j : Nat, j ≤ 3 ∧ i = .int .i64 j) (fun i => 3 - (intOf i).toNat)
  case atStart => exact ⟨0, Nat.zero_le _, rfl⟩
  case round =>
    obtain ⟨j, hj, rfl⟩ := hrel
    by_cases hlt : j < 3
    · have cj := cell_ofR R1 hlt
      have sj := HS.out j hlt
      have tj : ¬ (100 : Int) < ((f j).size : Int) := by omega
      have uj : decide ((100 : Int) < ((f j).size : Int)) = false := by rw [decide_eq_false_iff_not]; exact tj
      have hlt2 : (j : Int) < (3 : Int) := by omega
      generalize f j = s at *
      go_wp2
      go_round
      case rel => exact ⟨j + 1, by omega, by go_num⟩
      case measure => first | omega | (simp [intOf]; omega)
    · have hj2 : 3 = j := by omega
      subst hj2
      go_wp2_with (fail)
      refine (pe _ R1).mono ?_
      rintro e w2 ⟨rfl, hb⟩
      have B2 := below_step B1 hb B1.size
      have d0 := cell_later hb (cell_later B1 c0)
      have d1 := cell_later hb (cell_later B1 c1)
      have d2 := cell_later hb (cell_later B1 c2)
      have bn := below_new w2 (.cells #[.string ⟨#[]⟩, .int .i64 0, .int .i64 0] 45)
      have B3 := below_step B2 bn B2.size
      have g0 := cell_later bn d0
      have g1 := cell_later bn d1
      have g2 := cell_later bn d2
      clear R1 HS B1 B2 hb pe c0 c1 c2
      go_wp2_with (fail)
      refine (nm _).mono ?_
      rintro e w' ⟨rfl, rfl⟩
      go_wp2_with (fail)
      refine (pa _).mono ?_
      rintro e w4 ⟨rfl, hb4⟩
      have B4 := below_step B3 hb4 B3.size
      have h0 := cell_later hb4 g0
      have h2 := cell_later hb4 g2
      go_wp2_with (fail)
      refine (pu _).mono ?_
      rintro e w5 ⟨rfl, hb5⟩
      have B5 := below_step B4 hb5 B4.size
      go_wp2
      go_ret
      exact ⟨rfl, B5⟩
set_option maxHeartbeats 4000000 in
set_option maxRecDepth 100000 in
theorem parses_below (A : Option Addr) (c : Nat) (f : Nat → ByteArray) (w : World) (htab : Tab w) (hr : rowAt w A 3 fun i => .string (f i)) (hs : ∀ i, i < 3 → (f i).size ≤ 100) (hn : nameB (f 0).data.toList = true) (he : pelE f = 0) (h2 : 0 < (f 2).size) (hx : ((f 2)[0].toNat : Int) = 120) (hu : (unP (f 2).data.toList).2 ≠ 0) (hg : (parseP ((f 2).extract 1 (f 2).size).data.toList).2 = 0) (hv : (parseP ((f 2).extract 1 (f 2).size).data.toList).1 < 0) :
    Calls Tryd.prog 7 #[.slice A 3 c] w fun e w' => e = .returned (.bool true) ∧ Below w.heap.size w w' := by
  have wo := worths_any w htab
  obtain ⟨b, o, rfl, hc⟩ := id (hr (by omega))
  have c0 : w.cell? ⟨b, o, none⟩ = some (.string (f 0)) := hc 0 (by omega)
  have c1 : w.cell? ⟨b, o + 1, none⟩ = some (.string (f 1)) := hc 1 (by omega)
  have c2 : w.cell? ⟨b, o + 2, none⟩ = some (.string (f 2)) := hc 2 (by omega)
  have hf : ∀ i, i < 3 → (f i).size ≤ 281474976710656 := fun i hi => by have := hs i hi; omega
  have z0 := hs 0 (by omega)
  have z1 := hs 1 (by omega)
  have z2 := hs 2 (by omega)
  have pe := fun W (h : rowAt W (some ⟨b, o, none⟩) 3 fun i => .string (f i)) => pe_nounits (some ⟨b, o, none⟩) c f W h hf hn he hu
  try unfold eZ at pe
  have ez := eq_z
  have en := fun a u W => eq_not (f 0) a u hn W
  have es := fun a u W => eq_same (f 0) a u W
  have nm := fun w => name_b (f 0) true hn w (by omega)
  have pa := fun w => parse_any (f 1) w (by omega)
  unfold pelE at *
  try unfold pelA at *
  generalize parseP (f 1).data.toList = q at *
  obtain ⟨x, y⟩ := q
  simp only [] at pa he pe
  subst he
  clear hn
  have te := toList_some (f 2) h2
  have i2 : (0 : Int) < (f 2).size := by omega
  have i3 : (1 : Int) ≤ (f 2).size := by omega
  have tx : (((f 2)[0].toNat : Int) != 120) = false := by simpa using hx
  have hp : Lib.hasPrefix (f 2).data.toList [120] = true := by rw [pre_at h2, decide_eq_true hx]
  have ht := trim_at hp
  have zx : ((f 2).extract 1 (f 2).size).size ≤ 100 := by rw [ByteArray.size_extract]; omega
  have pu := fun w => parse_any ((f 2).extract 1 (f 2).size) w (by omega)
  have eu : unP (f 2).data.toList = (if (parseP ((f 2).extract 1 (f 2).size).data.toList).2 = 0 then (if oftB (parseP ((f 2).extract 1 (f 2).size).data.toList).1 = true then ((parseP ((f 2).extract 1 (f 2).size).data.toList).1, 0) else (0, 1)) else (0, (parseP ((f 2).extract 1 (f 2).size).data.toList).2)) := by unfold unP; rw [hp, if_neg (by decide), ht]
  rw [eu] at pe hu
  clear eu ht hp
  generalize parseP ((f 2).extract 1 (f 2).size).data.toList = q2 at *
  obtain ⟨uu, zz⟩ := q2
  simp only [] at pe pu hu hg hv
  subst hg
  have tu : uu < 0 := hv
  have ho : ¬ oftB uu = true := by intro q; have := oftB_yes q; omega
  rw [if_pos rfl, if_neg ho] at pe
  simp only [] at pe
  clear hu hx en es ho
  have HS := Lib.hid hs
  clear hc hs hf
  go_enter Tryd.func7, Tryd.ntmps7
  go_wp2_with (fail)
  refine wo.mono ?_
  rintro e w1 ⟨rfl, B1⟩
  have R1 := rowS_below hr B1
  clear wo hr htab
  go_wp2
  go_loop [20] (fun i => ∃ j : Nat, j ≤ 3 ∧ i = .int .i64 j) (fun i => 3 - (intOf i).toNat)
  case atStart => exact ⟨0, Nat.zero_le _, rfl⟩
  case round =>
    obtain ⟨j, hj, rfl⟩ := hrel
    by_cases hlt : j < 3
    · have cj := cell_ofR R1 hlt
      have sj := HS.out j hlt
      have tj : ¬ (100 : Int) < ((f j).size : Int) := by omega
      have uj : decide ((100 : Int) < ((f j).size : Int)) = false := by rw [decide_eq_false_iff_not]; exact tj
      have hlt2 : (j : Int) < (3 : Int) := by omega
      generalize f j = s at *
      go_wp2
      go_round
      case rel => exact ⟨j + 1, by omega, by go_num⟩
      case measure => first | omega | (simp [intOf]; omega)
    · have hj2 : 3 = j := by omega
      subst hj2
      go_wp2_with (fail)
      refine (pe _ R1).mono ?_
      rintro e w2 ⟨rfl, hb⟩
      have B2 := below_step B1 hb B1.size
      have d0 := cell_later hb (cell_later B1 c0)
      have d1 := cell_later hb (cell_later B1 c1)
      have d2 := cell_later hb (cell_later B1 c2)
      have bn := below_new w2 (.cells #[.string ⟨#[]⟩, .int .i64 0, .int .i64 0] 45)
      have B3 := below_step B2 bn B2.size
      have g0 := cell_later bn d0
      have g1 := cell_later bn d1
      have g2 := cell_later bn d2
      clear R1 HS B1 B2 hb pe c0 c1 c2
      go_wp2_with (fail)
      refine (nm _).mono ?_
      rintro e w' ⟨rfl, rfl⟩
      go_wp2_with (fail)
      refine (pa _).mono ?_
      rintro e w4 ⟨rfl, hb4⟩
      have B4 := below_step B3 hb4 B3.size
      have h0 := cell_later hb4 g0
      have h2 := cell_later hb4 g2
      go_wp2_with (fail)
      refine (pu _).mono ?_
      rintro e w5 ⟨rfl, hb5⟩
      have B5 := below_step B4 hb5 B4.size
      go_wp2
      go_ret
      exact ⟨rfl, B5⟩
set_option maxHeartbeats 4000000 in
set_option maxRecDepth 100000 in
theorem parses_above (A : Option Addr) (c : Nat) (f : Nat → ByteArray) (w : World) (htab : Tab w) (hr : rowAt w A 3 fun i => .string (f i)) (hs : ∀ i, i < 3 → (f i).size ≤ 100) (hn : nameB (f 0).data.toList = true) (he : pelE f = 0) (h2 : 0 < (f 2).size) (hx : ((f 2)[0].toNat : Int) = 120) (hu : (unP (f 2).data.toList).2 ≠ 0) (hg : (parseP ((f 2).extract 1 (f 2).size).data.toList).2 = 0) (hv : 100000 < (parseP ((f 2).extract 1 (f 2).size).data.toList).1) :
    Calls Tryd.prog 7 #[.slice A 3 c] w fun e w' => e = .returned (.bool true) ∧ Below w.heap.size w w' := by
  have wo := worths_any w htab
  obtain ⟨b, o, rfl, hc⟩ := id (hr (by omega))
  have c0 : w.cell? ⟨b, o, none⟩ = some (.string (f 0)) := hc 0 (by omega)
  have c1 : w.cell? ⟨b, o + 1, none⟩ = some (.string (f 1)) := hc 1 (by omega)
  have c2 : w.cell? ⟨b, o + 2, none⟩ = some (.string (f 2)) := hc 2 (by omega)
  have hf : ∀ i, i < 3 → (f i).size ≤ 281474976710656 := fun i hi => by have := hs i hi; omega
  have z0 := hs 0 (by omega)
  have z1 := hs 1 (by omega)
  have z2 := hs 2 (by omega)
  have pe := fun W (h : rowAt W (some ⟨b, o, none⟩) 3 fun i => .string (f i)) => pe_nounits (some ⟨b, o, none⟩) c f W h hf hn he hu
  try unfold eZ at pe
  have ez := eq_z
  have en := fun a u W => eq_not (f 0) a u hn W
  have es := fun a u W => eq_same (f 0) a u W
  have nm := fun w => name_b (f 0) true hn w (by omega)
  have pa := fun w => parse_any (f 1) w (by omega)
  unfold pelE at *
  try unfold pelA at *
  generalize parseP (f 1).data.toList = q at *
  obtain ⟨x, y⟩ := q
  simp only [] at pa he pe
  subst he
  clear hn
  have te := toList_some (f 2) h2
  have i2 : (0 : Int) < (f 2).size := by omega
  have i3 : (1 : Int) ≤ (f 2).size := by omega
  have tx : (((f 2)[0].toNat : Int) != 120) = false := by simpa using hx
  have hp : Lib.hasPrefix (f 2).data.toList [120] = true := by rw [pre_at h2, decide_eq_true hx]
  have ht := trim_at hp
  have zx : ((f 2).extract 1 (f 2).size).size ≤ 100 := by rw [ByteArray.size_extract]; omega
  have pu := fun w => parse_any ((f 2).extract 1 (f 2).size) w (by omega)
  have eu : unP (f 2).data.toList = (if (parseP ((f 2).extract 1 (f 2).size).data.toList).2 = 0 then (if oftB (parseP ((f 2).extract 1 (f 2).size).data.toList).1 = true then ((parseP ((f 2).extract 1 (f 2).size).data.toList).1, 0) else (0, 1)) else (0, (parseP ((f 2).extract 1 (f 2).size).data.toList).2)) := by unfold unP; rw [hp, if_neg (by decide), ht]
  rw [eu] at pe hu
  clear eu ht hp
  generalize parseP ((f 2).extract 1 (f 2).size).data.toList = q2 at *
  obtain ⟨uu, zz⟩ := q2
  simp only [] at pe pu hu hg hv
  subst hg
  have tu : 100000 < uu := hv
  have tu2 : ¬ uu < 0 := by omega
  have ho : ¬ oftB uu = true := by intro q; have := oftB_yes q; omega
  rw [if_pos rfl, if_neg ho] at pe
  simp only [] at pe
  clear hu hx en es ho
  have HS := Lib.hid hs
  clear hc hs hf
  go_enter Tryd.func7, Tryd.ntmps7
  go_wp2_with (fail)
  refine wo.mono ?_
  rintro e w1 ⟨rfl, B1⟩
  have R1 := rowS_below hr B1
  clear wo hr htab
  go_wp2
  go_loop [20] (fun i => ∃ j : Nat, j ≤ 3 ∧ i = .int .i64 j) (fun i => 3 - (intOf i).toNat)
  case atStart => exact ⟨0, Nat.zero_le _, rfl⟩
  case round =>
    obtain ⟨j, hj, rfl⟩ := hrel
    by_cases hlt : j < 3
    · have cj := cell_ofR R1 hlt
      have sj := HS.out j hlt
      have tj : ¬ (100 : Int) < ((f j).size : Int) := by omega
      have uj : decide ((100 : Int) < ((f j).size : Int)) = false := by rw [decide_eq_false_iff_not]; exact tj
      have hlt2 : (j : Int) < (3 : Int) := by omega
      generalize f j = s at *
      go_wp2
      go_round
      case rel => exact ⟨j + 1, by omega, by go_num⟩
      case measure => first | omega | (simp [intOf]; omega)
    · have hj2 : 3 = j := by omega
      subst hj2
      go_wp2_with (fail)
      refine (pe _ R1).mono ?_
      rintro e w2 ⟨rfl, hb⟩
      have B2 := below_step B1 hb B1.size
      have d0 := cell_later hb (cell_later B1 c0)
      have d1 := cell_later hb (cell_later B1 c1)
      have d2 := cell_later hb (cell_later B1 c2)
      have bn := below_new w2 (.cells #[.string ⟨#[]⟩, .int .i64 0, .int .i64 0] 45)
      have B3 := below_step B2 bn B2.size
      have g0 := cell_later bn d0
      have g1 := cell_later bn d1
      have g2 := cell_later bn d2
      clear R1 HS B1 B2 hb pe c0 c1 c2
      go_wp2_with (fail)
      refine (nm _).mono ?_
      rintro e w' ⟨rfl, rfl⟩
      go_wp2_with (fail)
      refine (pa _).mono ?_
      rintro e w4 ⟨rfl, hb4⟩
      have B4 := below_step B3 hb4 B3.size
      have h0 := cell_later hb4 g0
      have h2 := cell_later hb4 g2
      go_wp2_with (fail)
      refine (pu _).mono ?_
      rintro e w5 ⟨rfl, hb5⟩
      have B5 := below_step B4 hb5 B4.size
      go_wp2
      go_ret
      exact ⟨rfl, B5⟩
set_option maxHeartbeats 4000000 in
set_option maxRecDepth 100000 in
theorem parses_three (A : Option Addr) (c : Nat) (f : Nat → ByteArray) (w : World) (htab : Tab w) (hr : rowAt w A 3 fun i => .string (f i)) (hs : ∀ i, i < 3 → (f i).size ≤ 100) (hn : nameB (f 0).data.toList = true) (he : pelE f = 0) (h2 : 0 < (f 2).size) (hx : ((f 2)[0].toNat : Int) = 120) (hu : (unP (f 2).data.toList).2 = 0) (hg : (parseP ((f 2).extract 1 (f 2).size).data.toList).2 = 0) (hv : oftB (parseP ((f 2).extract 1 (f 2).size).data.toList).1 = true) :
    Calls Tryd.prog 7 #[.slice A 3 c] w fun e w' => e = .returned (.bool true) ∧ Below w.heap.size w w' := by
  have wo := worths_any w htab
  obtain ⟨b, o, rfl, hc⟩ := id (hr (by omega))
  have c0 : w.cell? ⟨b, o, none⟩ = some (.string (f 0)) := hc 0 (by omega)
  have c1 : w.cell? ⟨b, o + 1, none⟩ = some (.string (f 1)) := hc 1 (by omega)
  have c2 : w.cell? ⟨b, o + 2, none⟩ = some (.string (f 2)) := hc 2 (by omega)
  have hf : ∀ i, i < 3 → (f i).size ≤ 281474976710656 := fun i hi => by have := hs i hi; omega
  have z0 := hs 0 (by omega)
  have z1 := hs 1 (by omega)
  have z2 := hs 2 (by omega)
  have pe := fun W (h : rowAt W (some ⟨b, o, none⟩) 3 fun i => .string (f i)) => pe_three (some ⟨b, o, none⟩) c f W h hf hn he hu
  try unfold eZ at pe
  have ez := eq_z
  have en := fun a u W => eq_not (f 0) a u hn W
  have es := fun a u W => eq_same (f 0) a u W
  have nm := fun w => name_b (f 0) true hn w (by omega)
  have pa := fun w => parse_any (f 1) w (by omega)
  unfold pelE at *
  try unfold pelA at *
  generalize parseP (f 1).data.toList = q at *
  obtain ⟨x, y⟩ := q
  simp only [] at pa he pe
  subst he
  clear hn
  have te := toList_some (f 2) h2
  have i2 : (0 : Int) < (f 2).size := by omega
  have i3 : (1 : Int) ≤ (f 2).size := by omega
  have tx : (((f 2)[0].toNat : Int) != 120) = false := by simpa using hx
  have hp : Lib.hasPrefix (f 2).data.toList [120] = true := by rw [pre_at h2, decide_eq_true hx]
  have ht := trim_at hp
  have zx : ((f 2).extract 1 (f 2).size).size ≤ 100 := by rw [ByteArray.size_extract]; omega
  have pu := fun w => parse_any ((f 2).extract 1 (f 2).size) w (by omega)
  have eu : unP (f 2).data.toList = (if (parseP ((f 2).extract 1 (f 2).size).data.toList).2 = 0 then (if oftB (parseP ((f 2).extract 1 (f 2).size).data.toList).1 = true then ((parseP ((f 2).extract 1 (f 2).size).data.toList).1, 0) else (0, 1)) else (0, (parseP ((f 2).extract 1 (f 2).size).data.toList).2)) := by unfold unP; rw [hp, if_neg (by decide), ht]
  rw [eu] at pe hu
  clear eu ht hp
  generalize parseP ((f 2).extract 1 (f 2).size).data.toList = q2 at *
  obtain ⟨uu, zz⟩ := q2
  simp only [] at pe pu hu hg hv
  subst hg
  obtain ⟨v1, v2⟩ := oftB_yes hv
  rw [if_pos rfl, if_pos hv] at pe
  simp only [] at pe
  have en := en x uu
  have es := es x uu
  clear hu hx hv
  have HS := Lib.hid hs
  clear hc hs hf
  go_enter Tryd.func7, Tryd.ntmps7
  go_wp2_with (fail)
  refine wo.mono ?_
  rintro e w1 ⟨rfl, B1⟩
  have R1 := rowS_below hr B1
  clear wo hr htab
  go_wp2
  go_loop [20] (fun i => ∃ j : Nat, j ≤ 3 ∧ i = .int .i64 j) (fun i => 3 - (intOf i).toNat)
  case atStart => exact ⟨0, Nat.zero_le _, rfl⟩
  case round =>
    obtain ⟨j, hj, rfl⟩ := hrel
    by_cases hlt : j < 3
    · have cj := cell_ofR R1 hlt
      have sj := HS.out j hlt
      have tj : ¬ (100 : Int) < ((f j).size : Int) := by omega
      have uj : decide ((100 : Int) < ((f j).size : Int)) = false := by rw [decide_eq_false_iff_not]; exact tj
      have hlt2 : (j : Int) < (3 : Int) := by omega
      generalize f j = s at *
      go_wp2
      go_round
      case rel => exact ⟨j + 1, by omega, by go_num⟩
      case measure => first | omega | (simp [intOf]; omega)
    · have hj2 : 3 = j := by omega
      subst hj2
      go_wp2_with (fail)
      refine (pe _ R1).mono ?_
      rintro e w2 ⟨rfl, hb⟩
      have B2 := below_step B1 hb B1.size
      have d0 := cell_later hb (cell_later B1 c0)
      have d1 := cell_later hb (cell_later B1 c1)
      have d2 := cell_later hb (cell_later B1 c2)
      have bn := below_new w2 (.cells #[.string (f 0), .int .i64 x, .int .i64 uu] 45)
      have B3 := below_step B2 bn B2.size
      have g0 := cell_later bn d0
      have g1 := cell_later bn d1
      have g2 := cell_later bn d2
      clear R1 HS B1 B2 hb pe c0 c1 c2
      have XB := trip_new w2 (.string (f 0)) (.int .i64 x) (.int .i64 uu) 45
      go_wp2_with (fail)
      refine (nm _).mono ?_
      rintro e w' ⟨rfl, rfl⟩
      go_wp2_with (fail)
      refine (pa _).mono ?_
      rintro e w4 ⟨rfl, hb4⟩
      have B4 := below_step B3 hb4 B3.size
      have h0 := cell_later hb4 g0
      have h2 := cell_later hb4 g2
      go_wp2_with (fail)
      refine (pu _).mono ?_
      rintro e w5 ⟨rfl, hb5⟩
      have B5 := below_step B4 hb5 B4.size
      have XB4 := XB.below hb4
      have XB5 := XB4.below hb5
      have x0 : w5.cell? ⟨w2.heap.size, 0, none⟩ = some (.string (f 0)) := XB5.cell (by omega)
      have x1 : w5.cell? ⟨w2.heap.size, 1, none⟩ = some (.int .i64 x) := XB5.cell (by omega)
      have x2 : w5.cell? ⟨w2.heap.size, 2, none⟩ = some (.int .i64 uu) := XB5.cell (by omega)
      have k0 := cell_later hb5 h0
      go_wp2
      go_quiet (fail)
      go_wp2
      go_ret
      exact ⟨rfl, below_drewN B5 _⟩
theorem wElementParses (A : Option Addr) (n c : Nat) (f : Nat → ByteArray) (w : World) (htab : Tab w) (hr : rowAt w A n fun i => .string (f i)) (hn : n ≤ 9223372036854775807) (hf : ∀ i, (f i).size ≤ 9223372036854775807) :
    Calls Tryd.prog 7 #[.slice A n c] w fun e w' => e = .returned (.bool true) ∧ Below w.heap.size w w' := by
  by_cases h20 : 20 < n
  · exact parses_many A n c f w htab hr h20
  by_cases hl : ∃ i, i < n ∧ 100 < (f i).size
  · exact parses_long A n c f w htab hr (by omega) hl
  have hs : ∀ i, i < n → (f i).size ≤ 100 := fun i hi => by
    rcases Nat.lt_or_ge 100 (f i).size with q | q
    · exact absurd ⟨i, hi, q⟩ hl
    · exact q
  by_cases h2 : n < 2
  · exact parses_few A n c f w htab hr (by omega) hs h2
  by_cases h3 : 3 < n
  · exact parses_more A n c f w htab hr (by omega) hs h3
  rcases (show n = 2 ∨ n = 3 by omega) with rfl | rfl
  · cases hb : nameB (f 0).data.toList
    · exact parses_noname2 A c f w htab hr hs hb
    · by_cases he : pelE f = 0
      · exact parses_two A c f w htab hr hs hb he
      · exact parses_noamount2 A c f w htab hr hs hb he
  · cases hb : nameB (f 0).data.toList
    · exact parses_noname3 A c f w htab hr hs hb
    · by_cases he : pelE f = 0
      · rcases Nat.eq_zero_or_pos (f 2).size with q | q
        · exact parses_empty A c f w htab hr hs hb he q (by unfold unP; rw [pre_none q, if_pos rfl]; decide)
        · by_cases hx : ((f 2)[0].toNat : Int) = 120
          · have hp : Lib.hasPrefix (f 2).data.toList [120] = true := by rw [pre_at q, decide_eq_true hx]
            have ht := trim_at hp
            by_cases hg : (parseP ((f 2).extract 1 (f 2).size).data.toList).2 = 0
            · cases hv : oftB (parseP ((f 2).extract 1 (f 2).size).data.toList).1
              · have hu : (unP (f 2).data.toList).2 ≠ 0 := by
                  unfold unP
                  rw [hp, if_neg (by decide), ht, if_pos hg, if_neg (by rw [hv]; decide)]
                  decide
                rcases oftB_no hv with h | h
                · exact parses_below A c f w htab hr hs hb he q hx hu hg h
                · exact parses_above A c f w htab hr hs hb he q hx hu hg h
              · exact parses_three A c f w htab hr hs hb he q hx (by
                  unfold unP
                  rw [hp, if_neg (by decide), ht, if_pos hg, if_pos hv]) hg hv
            · exact parses_nounits A c f w htab hr hs hb he q hx (by
                unfold unP
                rw [hp, if_neg (by decide), ht, if_neg hg]
                exact hg) hg
          · exact parses_nox A c f w htab hr hs hb he q hx (by unfold unP; rw [pre_at q, decide_eq_false hx, if_pos rfl]; decide)
      · exact parses_noamount3 A c f w htab hr hs hb he
end Go.Proofs.YtobdbjmpoefebaaDoor
