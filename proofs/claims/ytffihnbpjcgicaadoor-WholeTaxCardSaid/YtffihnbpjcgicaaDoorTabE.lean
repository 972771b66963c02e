/- Merged: TabA, TabB, TabC, TabD, TabE. -/
import Derived.Test.YtffihnbpjcgicaaDoorTblK
import Derived.Test.YtffihnbpjcgicaaDoorAmtC
import Derived.Lib.QuietBelow
import Derived.BigGuardPart
import Derived.Deep.RegionHeld3
import Derived.LoopN
import Derived.Laws.EntriesVeiled
/- What the calls of table answer that look over the head and the schemes. -/
namespace Go.Proofs.YtffihnbpjcgicaaDoor
open Go.RowKit
set_option linter.unusedVariables false
set_option linter.unusedSimpArgs false

theorem head_any (w : World) (A1 A2 A3 : Option Addr) (n1 n2 n3 c1 c2 c3 : Nat) (L W : Int) :
    Calls Tryd.prog 102 #[.agg #[.slice A1 n1 c1, .slice A2 n2 c2, .slice A3 n3 c3, .int .i64 L, .int .i64 W]] w fun e w' => e = .returned (.int .i64 (headE L W)) ∧ Below w.heap.size w w' := by
  unfold headE
  cases hr : rateB L
  · have c := rate_b L false hr
    clear hr
    go_enter Tryd.func102, Tryd.ntmps102
    go_wp2_with (fail)
    refine (c _).mono ?_
    rintro e w' ⟨rfl, rfl⟩
    go_wp2
    go_ret
    exact ⟨rfl, (Below.refl _ _).alloc (Nat.le_refl _) _⟩
  · have c := rate_b L true hr
    cases hm : modeB W
    · have d := mode_b W false hm
      clear hr hm
      go_enter Tryd.func102, Tryd.ntmps102
      go_wp2_with (fail)
      refine (c _).mono ?_
      rintro e w' ⟨rfl, rfl⟩
      go_wp2_with (fail)
      refine (d _).mono ?_
      rintro e w' ⟨rfl, rfl⟩
      go_wp2
      go_ret
      exact ⟨rfl, (Below.refl _ _).alloc (Nat.le_refl _) _⟩
    · have d := mode_b W true hm
      clear hr hm
      go_enter Tryd.func102, Tryd.ntmps102
      go_wp2_with (fail)
      refine (c _).mono ?_
      rintro e w' ⟨rfl, rfl⟩
      go_wp2_with (fail)
      refine (d _).mono ?_
      rintro e w' ⟨rfl, rfl⟩
      go_wp2
      go_ret
      exact ⟨rfl, (Below.refl _ _).alloc (Nat.le_refl _) _⟩
/-- has a band a rate of the employer's? -/
theorem emp_any (f r e : Int) (w : World) :
    Calls Tryd.prog 139 #[.agg #[.int .i64 f, .int .i64 r, .int .i64 e]] w fun x w' => x = .returned (.bool (e != 0)) ∧ Below w.heap.size w w' := by
  go_enter Tryd.func139, Tryd.ntmps139
  go_wp2
  go_ret
  exact ⟨rfl, (Below.refl _ _).alloc (Nat.le_refl _) _⟩
theorem emp_b (f r e : Int) (v : Bool) (h : (e != 0) = v) (w : World) :
    Calls Tryd.prog 139 #[.agg #[.int .i64 f, .int .i64 r, .int .i64 e]] w fun x w' => x = .returned (.bool v) ∧ Below w.heap.size w w' := by
  subst h; exact emp_any f r e w
set_option maxHeartbeats 1000000 in
theorem idxband_any (A : Option Addr) (n c : Nat) (w : World) (F R E : Nat → Int) (h : Bds w A n F R E) (hn : n ≤ 9223372036854775807) :
    Calls Tryd.prog 167 #[.slice A n c, .func (.func 139) #[] #[]] w fun e w' => e = .returned (.int .i64 (idxN (fun j => E j != 0) n)) ∧ Below w.heap.size w w' := by
  by_cases h0 : n = 0
  · subst h0
    go_enter Tryd.func167, Tryd.ntmps167
    go_wp2
    go_loopw [8] (fun k W => k = .int .i64 0 ∧ Below w.heap.size w W) (fun k _ => 0)
    case atStart => exact ⟨rfl, Below.refl _ _⟩
    case round =>
      obtain ⟨rfl, hb⟩ := hrel
      go_wp2
      go_ret
      exact ⟨rfl, hb⟩
  obtain ⟨b, o, rfl, hc⟩ := h (by omega)
  have HC := Lib.hid hc
  clear hc h
  go_enter Tryd.func167, Tryd.ntmps167
  go_wp2
  go_loopw [8] (fun k W => ∃ i : Nat, i ≤ n ∧ Hid (∀ j, j < i → (E j != 0) = false) ∧ k = .int .i64 i ∧ Below w.heap.size w W) (fun k _ => n - (intOf k).toNat)
  case atStart => exact ⟨0, Nat.zero_le _, Lib.hid fun j hj => absurd hj (Nat.not_lt_zero _), rfl, Below.refl _ _⟩
  case round =>
    obtain ⟨i, hi, hs, rfl, hb⟩ := hrel
    by_cases hlt : i < n
    · obtain ⟨c0, c1, c2⟩ := HC.out i hlt
      have d0 := cell_later hb c0
      have d1 := cell_later hb c1
      have d2 := cell_later hb c2
      clear c0 c1 c2
      cases hv : (E i != 0)
      · have f := emp_b (F i) (R i) (E i) false hv
        have HS : Hid (∀ j, j < i + 1 → (E j != 0) = false) := Lib.hid fun j hj => by
          by_cases e : j = i
          · subst e; exact hv
          · exact hs.out j (by omega)
        clear hv hs
        go_wp2_with (fail)
        refine (f _).mono ?_
        rintro e w2 ⟨rfl, hb2⟩
        go_wp2
        go_roundw
        case rel => exact ⟨i + 1, by omega, HS, by go_num, below_step hb hb2 hb.size⟩
        case measure => first | omega | (simp [intOf]; omega)
      · have f := emp_b (F i) (R i) (E i) true hv
        have HS := Lib.hid (idx_stop (p := fun j => E j != 0) hlt hs.out hv)
        clear hv hs
        go_wp2_with (fail)
        refine (f _).mono ?_
        rintro e w2 ⟨rfl, hb2⟩
        go_wp2
        go_ret
        exact ⟨ret_i HS.out.symm, below_step hb hb2 hb.size⟩
    · obtain rfl : i = n := by omega
      have HS := Lib.hid (idx_none (p := fun j => E j != 0) hs.out)
      clear hs
      go_wp2
      go_ret
      exact ⟨ret_i HS.out.symm, hb⟩
theorem emps_any (A : Option Addr) (n c : Nat) (w : World) (F R E : Nat → Int) (h : Bds w A n F R E) (hn : n ≤ 9223372036854775807) (v : Bool) (hv : decide (0 ≤ idxN (fun j => E j != 0) n) = v) :
    Calls Tryd.prog 138 #[.slice A n c, .func (.func 139) #[] #[]] w fun e w' => e = .returned (.bool v) ∧ Below w.heap.size w w' := by
  have f := idxband_any A n c w F R E h hn
  subst hv
  generalize idxN (fun j => E j != 0) n = x at *
  go_enter Tryd.func138, Tryd.ntmps138
  go_wp2_with (fail)
  refine f.mono ?_
  rintro e w2 ⟨rfl, hb2⟩
  go_wp2
  go_ret
  exact ⟨rfl, hb2⟩
end Go.Proofs.YtffihnbpjcgicaaDoor

/- What lookSchemes answers. -/
namespace Go.Proofs.YtffihnbpjcgicaaDoor
open Go.RowKit
set_option linter.unusedVariables false
set_option linter.unusedSimpArgs false

theorem cells5 (w : World) (a b c d e : Value) (t : TypeId) : (w.alloc (.cells #[a, b, c, d, e] t)).cell? ⟨w.heap.size, 0, none⟩ = some a ∧ (w.alloc (.cells #[a, b, c, d, e] t)).cell? ⟨w.heap.size, 1, none⟩ = some b ∧ (w.alloc (.cells #[a, b, c, d, e] t)).cell? ⟨w.heap.size, 2, none⟩ = some c ∧ (w.alloc (.cells #[a, b, c, d, e] t)).cell? ⟨w.heap.size, 3, none⟩ = some d ∧ (w.alloc (.cells #[a, b, c, d, e] t)).cell? ⟨w.heap.size, 4, none⟩ = some e := by simp [go_sem]
theorem below_new (w : World) (o : Obj) : Below w.heap.size w (w.alloc o) := (Below.refl _ _).alloc (Nat.le_refl _) _
set_option maxHeartbeats 2000000 in
theorem schemes_any (w : World) (A A2 A3 : Option Addr) (n n2 n3 c c2 c3 : Nat) (L W : Int) (S : Nat → SB) (h : SchM w A n S) (hz : n ≤ 8 → ∀ i, i < n → (S i).n ≤ 9223372036854775807) :
    Calls Tryd.prog 103 #[.agg #[.slice A n c, .slice A2 n2 c2, .slice A3 n3 c3, .int .i64 L, .int .i64 W]] w fun e w' => e = .returned (.int .i64 (schsE S n)) ∧ Below w.heap.size w w' := by
  unfold schsE
  by_cases h0 : n = 0
  · subst h0
    go_enter Tryd.func103, Tryd.ntmps103
    go_wp2
    go_ret
    exact ⟨rfl, (Below.refl _ _).alloc (Nat.le_refl _) _⟩
  by_cases h9 : 8 < n
  · rw [if_pos (by omega)]
    have t1 : ((n : Int) == 0) = false := by simp; omega
    have t2 : (8 : Int) < n := by omega
    clear h0 hz h
    go_enter Tryd.func103, Tryd.ntmps103
    go_wp2
    go_ret
    exact ⟨rfl, (Below.refl _ _).alloc (Nat.le_refl _) _⟩
  rw [if_neg (by omega)]
  have t1 : ((n : Int) == 0) = false := by simp; omega
  have t2 : ¬ (8 : Int) < n := by omega
  have hz := hz (by omega)
  obtain ⟨b, o, rfl, hc⟩ := h (by omega)
  have HC := Lib.hid hc
  have HZ := Lib.hid hz
  clear hc h h0 hz
  go_enter Tryd.func103, Tryd.ntmps103
  go_wp2
  go_loopw [19] (fun k W => ∃ i : Nat, i ≤ n ∧ Hid (firstE (fun i => schE (S i)) i = 0) ∧ k = .int .i64 i ∧ Below w.heap.size w W) (fun k _ => n - (intOf k).toNat)
  case atStart => exact ⟨0, Nat.zero_le _, Lib.hid rfl, rfl, (Below.refl _ _).alloc (Nat.le_refl _) _⟩
  case round =>
    obtain ⟨i, hi, hs, rfl, hb⟩ := hrel
    by_cases hlt : i < n
    · obtain ⟨c0, hB⟩ := HC.out i hlt
      have d0 := cell_later hb c0
      have hB := hB.below hb
      have ck := fun w' (q : Bds w' _ _ _ _ _) => bandcheck_any (S i).A (S i).n (S i).c w' (S i).F (S i).R (S i).E q (HZ.out i hlt)
      clear c0
      have hdef : schE (S i) = if chk (S i).F (S i).R (S i).E (S i).n = 0 then (if 0 ≤ idxN (fun j => (S i).E j != 0) (S i).n then 50 else 0) else chk (S i).F (S i).R (S i).E (S i).n := rfl
      by_cases hk : chk (S i).F (S i).R (S i).E (S i).n = 0
      · rw [hk] at ck
        rw [if_pos hk] at hdef
        cases hv : decide (0 ≤ idxN (fun j => (S i).E j != 0) (S i).n)
        · have em := fun w' (q : Bds w' _ _ _ _ _) => emps_any (S i).A (S i).n (S i).c w' (S i).F (S i).R (S i).E q (HZ.out i hlt) false hv
          rw [if_neg (by simpa using hv)] at hdef
          have HS := Lib.hid (first_succ (f := fun i => schE (S i)) hs.out hdef)
          clear hdef hv hk hs
          go_wp2_with (fail)
          refine (ck _ hB).mono ?_
          rintro e w2 ⟨rfl, hb2⟩
          have hB2 := hB.below hb2
          go_wp2_with (fail)
          refine (em _ hB2).mono ?_
          rintro e w3 ⟨rfl, hb3⟩
          go_wp2
          go_roundw
          case rel => exact ⟨i + 1, by omega, HS, by go_num, below_step (below_step hb hb2 hb.size) hb3 (below_step hb hb2 hb.size).size⟩
          case measure => first | omega | (simp [intOf]; omega)
        · have em := fun w' (q : Bds w' _ _ _ _ _) => emps_any (S i).A (S i).n (S i).c w' (S i).F (S i).R (S i).E q (HZ.out i hlt) true hv
          rw [if_pos (by simpa using hv)] at hdef
          have HS := Lib.hid ((first_stop (f := fun i => schE (S i)) hlt hs.out (by show schE (S i) ≠ 0; omega)).trans hdef)
          clear hdef hv hk hs
          go_wp2_with (fail)
          refine (ck _ hB).mono ?_
          rintro e w2 ⟨rfl, hb2⟩
          have hB2 := hB.below hb2
          go_wp2_with (fail)
          refine (em _ hB2).mono ?_
          rintro e w3 ⟨rfl, hb3⟩
          go_wp2
          go_ret
          exact ⟨ret_i HS.out.symm, below_step (below_step hb hb2 hb.size) hb3 (below_step hb hb2 hb.size).size⟩
      · rw [if_neg hk] at hdef
        have HS := Lib.hid ((first_stop (f := fun i => schE (S i)) hlt hs.out (by show schE (S i) ≠ 0; omega)).trans hdef)
        have t3 : (chk (S i).F (S i).R (S i).E (S i).n != 0) = true := by simpa using hk
        clear hdef hk hs
        generalize chk (S i).F (S i).R (S i).E (S i).n = v at *
        go_wp2_with (fail)
        refine (ck _ hB).mono ?_
        rintro e w2 ⟨rfl, hb2⟩
        go_wp2
        go_ret
        exact ⟨ret_i HS.out.symm, below_step hb hb2 hb.size⟩
    · obtain rfl : i = n := by omega
      have HS := Lib.hid hs
      clear hs
      go_wp2
      go_ret
      exact ⟨ret_i HS.out.out.symm, hb⟩
end Go.Proofs.YtffihnbpjcgicaaDoor

/- What the calls of table answer that find names. -/
namespace Go.Proofs.YtffihnbpjcgicaaDoor
open Go.RowKit
set_option linter.unusedVariables false
set_option linter.unusedSimpArgs false

theorem str_inj {a b : ByteArray} (h : a.toList = b.toList) : a = b := by
  rw [Lib.toList_data, Lib.toList_data] at h
  apply ByteArray.ext
  exact Array.toList_inj.1 h
theorem str_b (a b : ByteArray) (v : Bool) (h : decide (a = b) = v) : (a.toList == b.toList) = v := by
  subst h
  by_cases h : a = b
  · subst h; simp
  · rw [decide_eq_false h]
    simpa using fun q => h (str_inj q)
theorem con1_any (x : CB) (N : ByteArray) (p : Nat) (w : World) (hp : w.cell? ⟨p, 0, none⟩ = some (.string N)) (v : Bool) (hv : decide (x.N = N) = v) :
    Calls Tryd.prog 169 #[.agg #[.string x.N, .int .i64 x.B, .slice x.b.A x.b.n x.b.c, .int .i64 x.P, .int .i64 x.Y, .int .i64 x.W], .pointer (some ⟨p, 0, none⟩)] w fun e w' => e = .returned (.bool v) ∧ Below w.heap.size w w' := by
  have E := str_b x.N N v hv
  clear hv
  have hlt := World.block_lt_of_cell? _ _ hp
  have hq : p ≠ w.heap.size := by
    have : p < w.heap.size := hlt
    omega
  generalize x.N = M at *
  go_enter Tryd.func169, Tryd.ntmps169
  go_wp2
  go_ret
  exact ⟨rfl, (Below.refl _ _).alloc (Nat.le_refl _) _⟩
theorem kin1_any (x : KB) (N : ByteArray) (p : Nat) (w : World) (hp : w.cell? ⟨p, 0, none⟩ = some (.string N)) (v : Bool) (hv : decide (x.N = N) = v) :
    Calls Tryd.prog 171 #[.agg #[.string x.N, .int .i64 x.c, .int .i64 x.t, .int .i64 x.s], .pointer (some ⟨p, 0, none⟩)] w fun e w' => e = .returned (.bool v) ∧ Below w.heap.size w w' := by
  have E := str_b x.N N v hv
  clear hv
  have hlt := World.block_lt_of_cell? _ _ hp
  have hq : p ≠ w.heap.size := by
    have : p < w.heap.size := hlt
    omega
  generalize x.N = M at *
  go_enter Tryd.func171, Tryd.ntmps171
  go_wp2
  go_ret
  exact ⟨rfl, (Below.refl _ _).alloc (Nat.le_refl _) _⟩
set_option maxHeartbeats 1000000 in
theorem idxcon_any (A : Option Addr) (n c p : Nat) (w : World) (C : Nat → CB) (N : ByteArray) (h : ConM w A n C) (hn : n ≤ 9223372036854775807) (hp : w.cell? ⟨p, 0, none⟩ = some (.string N)) :
    Calls Tryd.prog 168 #[.slice A n c, .func (.func 169) #[] #[.pointer (some ⟨p, 0, none⟩)]] w fun e w' => e = .returned (.int .i64 (conI C N n)) ∧ Below w.heap.size w w' := by
  by_cases h0 : n = 0
  · subst h0
    go_enter Tryd.func168, Tryd.ntmps168
    go_wp2
    go_loopw [8] (fun k W => k = .int .i64 0 ∧ Below w.heap.size w W) (fun k _ => 0)
    case atStart => exact ⟨rfl, Below.refl _ _⟩
    case round =>
      obtain ⟨rfl, hb⟩ := hrel
      go_wp2
      go_ret
      exact ⟨rfl, hb⟩
  obtain ⟨b, o, rfl, hc⟩ := h (by omega)
  have HC := Lib.hid hc
  clear hc h
  go_enter Tryd.func168, Tryd.ntmps168
  go_wp2
  go_loopw [8] (fun k W => ∃ i : Nat, i ≤ n ∧ Hid (∀ j, j < i → decide ((C j).N = N) = false) ∧ k = .int .i64 i ∧ Below w.heap.size w W) (fun k _ => n - (intOf k).toNat)
  case atStart => exact ⟨0, Nat.zero_le _, Lib.hid fun j hj => absurd hj (Nat.not_lt_zero _), rfl, Below.refl _ _⟩
  case round =>
    obtain ⟨i, hi, hs, rfl, hb⟩ := hrel
    have hpp := cell_later hb hp
    by_cases hlt : i < n
    · obtain ⟨c0, c1, c2, c3, c4, c5, _⟩ := HC.out i hlt
      have d0 := cell_later hb c0
      have d1 := cell_later hb c1
      have d2 := cell_later hb c2
      have d3 := cell_later hb c3
      have d4 := cell_later hb c4
      have d5 := cell_later hb c5
      clear c0 c1 c2 c3 c4 c5
      cases hv : decide ((C i).N = N)
      · have f := fun w q => con1_any (C i) N p w q false hv
        have HS : Hid (∀ j, j < i + 1 → decide ((C j).N = N) = false) := Lib.hid fun j hj => by
          by_cases e : j = i
          · subst e; exact hv
          · exact hs.out j (by omega)
        clear hv hs
        go_wp2_with (fail)
        refine (f _ hpp).mono ?_
        rintro e w2 ⟨rfl, hb2⟩
        go_wp2
        go_roundw
        case rel => exact ⟨i + 1, by omega, HS, by go_num, below_step hb hb2 hb.size⟩
        case measure => first | omega | (simp [intOf]; omega)
      · have f := fun w q => con1_any (C i) N p w q true hv
        have HS := Lib.hid (idx_stop (p := fun j => decide ((C j).N = N)) hlt hs.out hv)
        clear hv hs
        go_wp2_with (fail)
        refine (f _ hpp).mono ?_
        rintro e w2 ⟨rfl, hb2⟩
        go_wp2
        go_ret
        exact ⟨ret_i HS.out.symm, below_step hb hb2 hb.size⟩
    · obtain rfl : i = n := by omega
      have HS := Lib.hid (idx_none (p := fun j => decide ((C j).N = N)) hs.out)
      clear hs
      go_wp2
      go_ret
      exact ⟨ret_i HS.out.symm, hb⟩
set_option maxHeartbeats 1000000 in
theorem idxkin_any (A : Option Addr) (n c p : Nat) (w : World) (C : Nat → KB) (N : ByteArray) (h : KinM w A n C) (hn : n ≤ 9223372036854775807) (hp : w.cell? ⟨p, 0, none⟩ = some (.string N)) :
    Calls Tryd.prog 170 #[.slice A n c, .func (.func 171) #[] #[.pointer (some ⟨p, 0, none⟩)]] w fun e w' => e = .returned (.int .i64 (kinI C N n)) ∧ Below w.heap.size w w' := by
  by_cases h0 : n = 0
  · subst h0
    go_enter Tryd.func170, Tryd.ntmps170
    go_wp2
    go_loopw [8] (fun k W => k = .int .i64 0 ∧ Below w.heap.size w W) (fun k _ => 0)
    case atStart => exact ⟨rfl, Below.refl _ _⟩
    case round =>
      obtain ⟨rfl, hb⟩ := hrel
      go_wp2
      go_ret
      exact ⟨rfl, hb⟩
  obtain ⟨b, o, rfl, hc⟩ := h (by omega)
  have HC := Lib.hid hc
  clear hc h
  go_enter Tryd.func170, Tryd.ntmps170
  go_wp2
  go_loopw [8] (fun k W => ∃ i : Nat, i ≤ n ∧ Hid (∀ j, j < i → decide ((C j).N = N) = false) ∧ k = .int .i64 i ∧ Below w.heap.size w W) (fun k _ => n - (intOf k).toNat)
  case atStart => exact ⟨0, Nat.zero_le _, Lib.hid fun j hj => absurd hj (Nat.not_lt_zero _), rfl, Below.refl _ _⟩
  case round =>
    obtain ⟨i, hi, hs, rfl, hb⟩ := hrel
    have hpp := cell_later hb hp
    by_cases hlt : i < n
    · obtain ⟨c0, c1, c2, c3⟩ := HC.out i hlt
      have d0 := cell_later hb c0
      have d1 := cell_later hb c1
      have d2 := cell_later hb c2
      have d3 := cell_later hb c3
      clear c0 c1 c2 c3
      cases hv : decide ((C i).N = N)
      · have f := fun w q => kin1_any (C i) N p w q false hv
        have HS : Hid (∀ j, j < i + 1 → decide ((C j).N = N) = false) := Lib.hid fun j hj => by
          by_cases e : j = i
          · subst e; exact hv
          · exact hs.out j (by omega)
        clear hv hs
        go_wp2_with (fail)
        refine (f _ hpp).mono ?_
        rintro e w2 ⟨rfl, hb2⟩
        go_wp2
        go_roundw
        case rel => exact ⟨i + 1, by omega, HS, by go_num, below_step hb hb2 hb.size⟩
        case measure => first | omega | (simp [intOf]; omega)
      · have f := fun w q => kin1_any (C i) N p w q true hv
        have HS := Lib.hid (idx_stop (p := fun j => decide ((C j).N = N)) hlt hs.out hv)
        clear hv hs
        go_wp2_with (fail)
        refine (f _ hpp).mono ?_
        rintro e w2 ⟨rfl, hb2⟩
        go_wp2
        go_ret
        exact ⟨ret_i HS.out.symm, below_step hb hb2 hb.size⟩
    · obtain rfl : i = n := by omega
      have HS := Lib.hid (idx_none (p := fun j => decide ((C j).N = N)) hs.out)
      clear hs
      go_wp2
      go_ret
      exact ⟨ret_i HS.out.symm, hb⟩
theorem contrib_any (w : World) (A A1 A2 : Option Addr) (n c n1 c1 n2 c2 : Nat) (L W : Int) (C : Nat → CB) (N : ByteArray) (h : ConM w A n C) (hn : n ≤ 9223372036854775807) :
    Calls Tryd.prog 141 #[.agg #[.slice A1 n1 c1, .slice A n c, .slice A2 n2 c2, .int .i64 L, .int .i64 W], .string N] w fun e w' => e = .returned (.int .i64 (conI C N n)) ∧ Below w.heap.size w w' := by
  have f := fun w p q r => idxcon_any A n c p w C N q hn r
  have b1 := below_new w (.cells #[.slice A1 n1 c1, .slice A n c, .slice A2 n2 c2, .int .i64 L, .int .i64 W] 71)
  have b2 := below_new (w.alloc (.cells #[.slice A1 n1 c1, .slice A n c, .slice A2 n2 c2, .int .i64 L, .int .i64 W] 71)) (.cells #[.string N] 9)
  have h1 := (h.below b1).below b2
  have B := below_step b1 b2 b1.size
  clear h b1 b2
  go_enter Tryd.func141, Tryd.ntmps141
  go_wp2_with (fail)
  refine (f _ _ h1 (by simp [go_sem])).mono ?_
  rintro e w2 ⟨rfl, hb2⟩
  go_wp2
  go_ret
  exact ⟨rfl, below_step B hb2 B.size⟩
theorem kindno_any (w : World) (A A1 A2 : Option Addr) (n c n1 c1 n2 c2 : Nat) (L W : Int) (C : Nat → KB) (N : ByteArray) (h : KinM w A n C) (hn : n ≤ 9223372036854775807) :
    Calls Tryd.prog 144 #[.agg #[.slice A1 n1 c1, .slice A2 n2 c2, .slice A n c, .int .i64 L, .int .i64 W], .string N] w fun e w' => e = .returned (.int .i64 (kinI C N n)) ∧ Below w.heap.size w w' := by
  have f := fun w p q r => idxkin_any A n c p w C N q hn r
  have b1 := below_new w (.cells #[.slice A1 n1 c1, .slice A2 n2 c2, .slice A n c, .int .i64 L, .int .i64 W] 71)
  have b2 := below_new (w.alloc (.cells #[.slice A1 n1 c1, .slice A2 n2 c2, .slice A n c, .int .i64 L, .int .i64 W] 71)) (.cells #[.string N] 9)
  have h1 := (h.below b1).below b2
  have B := below_step b1 b2 b1.size
  clear h b1 b2
  go_enter Tryd.func144, Tryd.ntmps144
  go_wp2_with (fail)
  refine (f _ _ h1 (by simp [go_sem])).mono ?_
  rintro e w2 ⟨rfl, hb2⟩
  go_wp2
  go_ret
  exact ⟨rfl, below_step B hb2 B.size⟩
theorem lookname_any (N : ByteArray) (t : Bool) (w : World) :
    Calls Tryd.prog 140 #[.string N, .bool t] w fun e w' => e = .returned (.int .i64 (nm N t)) ∧ w = w' := by
  unfold nm
  cases hn : nameB N.data.toList
  · have f := fun w => name_v N w
    rw [hn] at f
    clear hn
    go_enter Tryd.func140, Tryd.ntmps140
    go_wp2_with (fail)
    refine (f _).mono ?_
    rintro e w' ⟨rfl, rfl⟩
    go_wp2
    go_ret
    exact ⟨rfl, rfl⟩
  · have f := fun w => name_v N w
    rw [hn] at f
    clear hn
    cases t
    all_goals
      go_enter Tryd.func140, Tryd.ntmps140
      go_wp2_with (fail)
      refine (f _).mono ?_
      rintro e w' ⟨rfl, rfl⟩
      go_wp2
      go_ret
      exact ⟨rfl, rfl⟩
theorem lookname_v (N : ByteArray) (t : Bool) (v : Int) (h : nm N t = v) (w : World) :
    Calls Tryd.prog 140 #[.string N, .bool t] w fun e w' => e = .returned (.int .i64 v) ∧ w = w' := by
  subst h; exact lookname_any N t w
theorem based_b (x : Int) (v : Bool) (h : baseB x = v) (w : World) : Calls Tryd.prog 142 #[.int .i64 x] w fun e w' => e = .returned (.bool v) ∧ w = w' := by
  subst h
  unfold baseB
  by_cases h1 : x = 1
  · subst h1
    go_enter Tryd.func142, Tryd.ntmps142
    go_wp2
    go_ret
    exact ⟨rfl, rfl⟩
  · have t1 : (x == 1) = false := by simpa using h1
    rw [decide_eq_false h1]
    by_cases h2 : x = 2
    · have t2 : (x == 2) = true := by simpa using h2
      rw [decide_eq_true h2]
      clear h1 h2
      go_enter Tryd.func142, Tryd.ntmps142
      go_wp2
      go_ret
      exact ⟨rfl, rfl⟩
    · have t2 : (x == 2) = false := by simpa using h2
      rw [decide_eq_false h2]
      clear h1 h2
      go_enter Tryd.func142, Tryd.ntmps142
      go_wp2
      go_ret
      exact ⟨rfl, rfl⟩
theorem signed_b (x : Int) (v : Bool) (h : sgnB x = v) (w : World) : Calls Tryd.prog 145 #[.int .i64 x] w fun e w' => e = .returned (.bool v) ∧ w = w' := by
  subst h
  unfold sgnB
  by_cases h1 : -1 ≤ x
  · rw [decide_eq_true h1]
    by_cases h2 : x ≤ 1
    · rw [decide_eq_true h2]
      go_enter Tryd.func145, Tryd.ntmps145
      go_wp2
      go_ret
      exact ⟨rfl, rfl⟩
    · rw [decide_eq_false h2]
      go_enter Tryd.func145, Tryd.ntmps145
      go_wp2
      go_ret
      exact ⟨rfl, rfl⟩
  · rw [decide_eq_false h1]
    go_enter Tryd.func145, Tryd.ntmps145
    go_wp2
    go_ret
    exact ⟨rfl, rfl⟩
theorem ceil_b (x : Int) (v : Bool) (h : ceilB x = v) (w : World) : Calls Tryd.prog 143 #[.int .i64 x] w fun e w' => e = .returned (.bool v) ∧ Below w.heap.size w w' := by
  subst h
  unfold ceilB
  by_cases h1 : 0 ≤ x
  · rw [decide_eq_true h1]
    have rt := fun W b o h => right_at x W b o (amtB x) rfl h
    go_enter Tryd.func143, Tryd.ntmps143
    go_wp2_with (fail)
    refine (rt _ _ _ (by simp [go_sem])).mono ?_
    rintro e w' ⟨rfl, rfl⟩
    go_wp2
    go_ret
    exact ⟨rfl, (Below.refl _ _).alloc (Nat.le_refl _) _⟩
  · rw [decide_eq_false h1]
    go_enter Tryd.func143, Tryd.ntmps143
    go_wp2
    go_ret
    exact ⟨rfl, Below.refl _ _⟩
end Go.Proofs.YtffihnbpjcgicaaDoor

/- What lookContribs and lookKinds answer. -/
namespace Go.Proofs.YtffihnbpjcgicaaDoor
open Go.RowKit Go.Sort
set_option linter.unusedVariables false
set_option linter.unusedSimpArgs false

theorem mixedT : Tryd.prog.follows .mixedOrders = true := by kernel_rfl
theorem conE_eq (C : Nat → CB) (n i : Nat) : conE C n i = if nm (C i).N (decide (conI C (C i).N n < i)) = 0 then
    (if baseB (C i).B && modeB (C i).W && ceilB (C i).P && ceilB (C i).Y then chk (C i).b.F (C i).b.R (C i).b.E (C i).b.n else 1)
  else nm (C i).N (decide (conI C (C i).N n < i)) := rfl
theorem kinE_eq (K : Nat → KB) (n i : Nat) : kinE K n i = if nm (K i).N (decide (kinI K (K i).N n < i)) = 0 then
    (if sgnB (K i).c && sgnB (K i).t && sgnB (K i).s then 0 else 1)
  else nm (K i).N (decide (kinI K (K i).N n < i)) := rfl
theorem to_below {f : Nat} {args : Array Value} {w : World} {x : Ending} (h : Calls Tryd.prog f args w fun e w' => e = x ∧ w = w') : Calls Tryd.prog f args w fun e w' => e = x ∧ Below w.heap.size w w' :=
  h.mono fun e w' ⟨h1, h2⟩ => ⟨h1, h2 ▸ Below.refl _ _⟩
set_option maxHeartbeats 4000000 in
set_option maxRecDepth 100000 in
theorem contribs_any (w : World) (A A1 A2 : Option Addr) (n c n1 c1 n2 c2 : Nat) (L W : Int) (C : Nat → CB) (h : ConM w A n C) (hn : n ≤ 9223372036854775807) (hz : n ≤ 6 → ∀ i, i < n → (C i).b.n ≤ 9223372036854775807) :
    Calls Tryd.prog 104 #[.agg #[.slice A1 n1 c1, .slice A n c, .slice A2 n2 c2, .int .i64 L, .int .i64 W]] w fun e w' => e = .returned (.int .i64 (consE C n)) ∧ Below w.heap.size w w' := by
  unfold consE
  by_cases h6 : 6 < n
  · rw [if_pos (by omega)]
    have t2 : (6 : Int) < n := by omega
    clear h
    go_enter Tryd.func104, Tryd.ntmps104
    go_wp2
    go_ret
    exact ⟨rfl, (Below.refl _ _).alloc (Nat.le_refl _) _⟩
  rw [if_neg (by omega)]
  have t2 : ¬ (6 : Int) < n := by omega
  have HZ := Lib.hid (hz (by omega))
  clear hz
  have cn := fun w' (q : ConM w' A n C) N => contrib_any w' A A1 A2 n c n1 c1 n2 c2 L W C N q hn
  have hx : n ≤ 6 := by omega
  clear h6
  go_enter Tryd.func104, Tryd.ntmps104
  go_wp2
  go_loopw [14] (fun k W' => ∃ i : Nat, i ≤ n ∧ Hid (firstE (conE C n) i = 0) ∧ k = .int .i64 i ∧ Below w.heap.size w W' ∧ w.heap.size < W'.heap.size ∧ W'.cell? ⟨w.heap.size, 0, none⟩ = some (.slice A1 n1 c1) ∧ W'.cell? ⟨w.heap.size, 1, none⟩ = some (.slice A n c) ∧ W'.cell? ⟨w.heap.size, 2, none⟩ = some (.slice A2 n2 c2) ∧ W'.cell? ⟨w.heap.size, 3, none⟩ = some (.int .i64 L) ∧ W'.cell? ⟨w.heap.size, 4, none⟩ = some (.int .i64 W)) (fun k _ => n - (intOf k).toNat)
  case atStart => exact ⟨0, Nat.zero_le _, Lib.hid rfl, rfl, (Below.refl _ _).alloc (Nat.le_refl _) _, by simp, by simp [go_sem], by simp [go_sem], by simp [go_sem], by simp [go_sem], by simp [go_sem]⟩
  case round =>
    obtain ⟨i, hi, hs, rfl, hb, hsz, z0, z1, z2, z3, z4⟩ := hrel
    by_cases hlt : i < n
    · have hC := h.below hb
      have hn0 : 0 < n := by omega
      obtain ⟨b, o, rfl, hcc⟩ := id (h hn0)
      obtain ⟨g0, g1, g2, g3, g4, g5, _⟩ := hcc i hlt
      clear hcc
      have d0 := cell_later hb g0
      have d1 := cell_later hb g1
      have d2 := cell_later hb g2
      have d3 := cell_later hb g3
      have d4 := cell_later hb g4
      have d5 := cell_later hb g5
      clear g0 g1 g2 g3 g4 g5
      have e0 : (wr.alloc (.cells #[.string (C i).N, .int .i64 (C i).B, .slice (C i).b.A (C i).b.n (C i).b.c, .int .i64 (C i).P, .int .i64 (C i).Y, .int .i64 (C i).W] 153)).cell? ⟨wr.heap.size, 0, none⟩ = some (.string (C i).N) := by simp [go_sem]
      have e1 : (wr.alloc (.cells #[.string (C i).N, .int .i64 (C i).B, .slice (C i).b.A (C i).b.n (C i).b.c, .int .i64 (C i).P, .int .i64 (C i).Y, .int .i64 (C i).W] 153)).cell? ⟨wr.heap.size, 1, none⟩ = some (.int .i64 (C i).B) := by simp [go_sem]
      have e2 : (wr.alloc (.cells #[.string (C i).N, .int .i64 (C i).B, .slice (C i).b.A (C i).b.n (C i).b.c, .int .i64 (C i).P, .int .i64 (C i).Y, .int .i64 (C i).W] 153)).cell? ⟨wr.heap.size, 2, none⟩ = some (.slice (C i).b.A (C i).b.n (C i).b.c) := by simp [go_sem]
      have e3 : (wr.alloc (.cells #[.string (C i).N, .int .i64 (C i).B, .slice (C i).b.A (C i).b.n (C i).b.c, .int .i64 (C i).P, .int .i64 (C i).Y, .int .i64 (C i).W] 153)).cell? ⟨wr.heap.size, 3, none⟩ = some (.int .i64 (C i).P) := by simp [go_sem]
      have e4 : (wr.alloc (.cells #[.string (C i).N, .int .i64 (C i).B, .slice (C i).b.A (C i).b.n (C i).b.c, .int .i64 (C i).P, .int .i64 (C i).Y, .int .i64 (C i).W] 153)).cell? ⟨wr.heap.size, 4, none⟩ = some (.int .i64 (C i).Y) := by simp [go_sem]
      have e5 : (wr.alloc (.cells #[.string (C i).N, .int .i64 (C i).B, .slice (C i).b.A (C i).b.n (C i).b.c, .int .i64 (C i).P, .int .i64 (C i).Y, .int .i64 (C i).W] 153)).cell? ⟨wr.heap.size, 5, none⟩ = some (.int .i64 (C i).W) := by simp [go_sem]
      have hN := below_new wr (.cells #[.string (C i).N, .int .i64 (C i).B, .slice (C i).b.A (C i).b.n (C i).b.c, .int .i64 (C i).P, .int .i64 (C i).Y, .int .i64 (C i).W] 153)
      have y0 := cell_later hN z0
      have y1 := cell_later hN z1
      have y2 := cell_later hN z2
      have y3 := cell_later hN z3
      have y4 := cell_later hN z4
      have hC1 := hC.below hN
      have B1 := below_step hb hN hb.size
      have hsz1 : w.heap.size < (wr.alloc (.cells #[.string (C i).N, .int .i64 (C i).B, .slice (C i).b.A (C i).b.n (C i).b.c, .int .i64 (C i).P, .int .i64 (C i).Y, .int .i64 (C i).W] 153)).heap.size := by simp; omega
      have hq : wr.heap.size ≠ w.heap.size := by omega
      go_wp2_with (fail)
      generalize wr.alloc (.cells #[.string (C i).N, .int .i64 (C i).B, .slice (C i).b.A (C i).b.n (C i).b.c, .int .i64 (C i).P, .int .i64 (C i).Y, .int .i64 (C i).W] 153) = W1 at *
      generalize hpn : wr.heap.size = pn at *
      clear hN hC hb d0 d1 d2 d3 d4 d5 z0 z1 z2 z3 z4
      have k0 := fun d os => cell_regrown e0 d os
      have q0 := fun d os => cell_regrown y0 d os
      have q1 := fun d os => cell_regrown y1 d os
      have q2 := fun d os => cell_regrown y2 d os
      have q3 := fun d os => cell_regrown y3 d os
      have q4 := fun d os => cell_regrown y4 d os
      have cA := fun (d : Nat) (os : Array Obj) => Calls.regrown_of (d := d) (os := os) (w := W1) (cn _ (hC1.below (below_regrown W1 d os)) (C i).N)
      have hdef := conE_eq C n i
      generalize hix : conI C (C i).N n = ix at *
      generalize hv : nm (C i).N (decide (ix < (i : Int))) = v at *
      have cB := fun (d : Nat) (os : Array Obj) => Calls.regrown_of (d := d) (os := os) (w := W1) (to_below (lookname_v (C i).N (decide (ix < (i : Int))) v hv (grow (redrawn W1 d) os)))
      clear hix hv
      refine wp_region_quiet_below mixedT (by kernel_rfl) ?_
      iterate 5 (go_big_quiet_step (fail))
      go_big_quiet_step (exact cA _ _)
      iterate 2 (go_big_quiet_step (fail))
      go_big_quiet_step (exact cB _ _)
      repeat (go_big_quiet_step (fail))
      refine wpQuiet_nil ?_
      intro _ hw'
      obtain ⟨⟨dq, osq⟩, hw''⟩ := hw'
      subst hw''
      have hR := below_regrown W1 dq osq
      have m0 := cell_later hR e0
      have m1 := cell_later hR e1
      have m2 := cell_later hR e2
      have m3 := cell_later hR e3
      have m4 := cell_later hR e4
      have m5 := cell_later hR e5
      have x0 := cell_later hR y0
      have x1 := cell_later hR y1
      have x2 := cell_later hR y2
      have x3 := cell_later hR y3
      have x4 := cell_later hR y4
      have B2 := below_step B1 hR B1.size
      have hsz2 := Nat.lt_of_lt_of_le hsz1 hR.size
      have hC2 := hC1.below hR
      generalize grow (redrawn W1 dq) osq = W2 at *
      clear hR hC1 B1 hsz1 cA cB k0 q0 q1 q2 q3 q4 e0 e1 e2 e3 e4 e5 y0 y1 y2 y3 y4
      by_cases hv0 : v = 0
      · subst hv0
        rw [if_pos rfl] at hdef
        cases hg0 : baseB (C i).B
        · rw [hg0] at hdef
          simp only [Bool.false_and, Bool.true_and, Bool.and_false, Bool.false_eq_true, if_false] at hdef
          have f0 := fun w => based_b (C i).B false hg0 w
          have HS := Lib.hid ((first_stop (f := conE C n) hlt hs.out (by rw [hdef]; simp)).trans hdef)
          clear hdef hs hg0
          go_wp2_with (fail)
          refine (f0 _).mono ?_
          rintro e w' ⟨rfl, rfl⟩
          go_wp2
          go_ret
          exact ⟨ret_i (by first | exact HS.out.symm | (rw [HS.out]; simp)), by first | exact B9 | exact B8 | exact B7 | exact B2⟩
        · skip
          cases hg1 : modeB (C i).W
          · rw [hg0, hg1] at hdef
            simp only [Bool.false_and, Bool.true_and, Bool.and_false, Bool.false_eq_true, if_false] at hdef
            have f0 := fun w => based_b (C i).B true hg0 w
            have f1 := fun w => mode_b (C i).W false hg1 w
            have HS := Lib.hid ((first_stop (f := conE C n) hlt hs.out (by rw [hdef]; simp)).trans hdef)
            clear hdef hs hg0 hg1
            go_wp2_with (fail)
            refine (f0 _).mono ?_
            rintro e w' ⟨rfl, rfl⟩
            go_wp2_with (fail)
            refine (f1 _).mono ?_
            rintro e w' ⟨rfl, rfl⟩
            go_wp2
            go_ret
            exact ⟨ret_i (by first | exact HS.out.symm | (rw [HS.out]; simp)), by first | exact B9 | exact B8 | exact B7 | exact B2⟩
          · skip
            cases hg2 : ceilB (C i).P
            · rw [hg0, hg1, hg2] at hdef
              simp only [Bool.false_and, Bool.true_and, Bool.and_false, Bool.false_eq_true, if_false] at hdef
              have f0 := fun w => based_b (C i).B true hg0 w
              have f1 := fun w => mode_b (C i).W true hg1 w
              have f2 := fun w => ceil_b (C i).P false hg2 w
              have HS := Lib.hid ((first_stop (f := conE C n) hlt hs.out (by rw [hdef]; simp)).trans hdef)
              clear hdef hs hg0 hg1 hg2
              go_wp2_with (fail)
              refine (f0 _).mono ?_
              rintro e w' ⟨rfl, rfl⟩
              go_wp2_with (fail)
              refine (f1 _).mono ?_
              rintro e w' ⟨rfl, rfl⟩
              go_wp2_with (fail)
              refine (f2 _).mono ?_
              rintro e W7 ⟨rfl, hb7⟩
              have B7 := below_step B2 hb7 B2.size
              have hsz7 := Nat.lt_of_lt_of_le hsz2 hb7.size
              have hC7 := hC2.below hb7
              replace m0 := cell_later hb7 m0
              replace m1 := cell_later hb7 m1
              replace m2 := cell_later hb7 m2
              replace m3 := cell_later hb7 m3
              replace m4 := cell_later hb7 m4
              replace m5 := cell_later hb7 m5
              replace x0 := cell_later hb7 x0
              replace x1 := cell_later hb7 x1
              replace x2 := cell_later hb7 x2
              replace x3 := cell_later hb7 x3
              replace x4 := cell_later hb7 x4
              go_wp2
              go_ret
              exact ⟨ret_i (by first | exact HS.out.symm | (rw [HS.out]; simp)), by first | exact B9 | exact B8 | exact B7 | exact B2⟩
            · skip
              cases hg3 : ceilB (C i).Y
              · rw [hg0, hg1, hg2, hg3] at hdef
                simp only [Bool.false_and, Bool.true_and, Bool.and_false, Bool.false_eq_true, if_false] at hdef
                have f0 := fun w => based_b (C i).B true hg0 w
                have f1 := fun w => mode_b (C i).W true hg1 w
                have f2 := fun w => ceil_b (C i).P true hg2 w
                have f3 := fun w => ceil_b (C i).Y false hg3 w
                have HS := Lib.hid ((first_stop (f := conE C n) hlt hs.out (by rw [hdef]; simp)).trans hdef)
                clear hdef hs hg0 hg1 hg2 hg3
                go_wp2_with (fail)
                refine (f0 _).mono ?_
                rintro e w' ⟨rfl, rfl⟩
                go_wp2_with (fail)
                refine (f1 _).mono ?_
                rintro e w' ⟨rfl, rfl⟩
                go_wp2_with (fail)
                refine (f2 _).mono ?_
                rintro e W7 ⟨rfl, hb7⟩
                have B7 := below_step B2 hb7 B2.size
                have hsz7 := Nat.lt_of_lt_of_le hsz2 hb7.size
                have hC7 := hC2.below hb7
                replace m0 := cell_later hb7 m0
                replace m1 := cell_later hb7 m1
                replace m2 := cell_later hb7 m2
                replace m3 := cell_later hb7 m3
                replace m4 := cell_later hb7 m4
                replace m5 := cell_later hb7 m5
                replace x0 := cell_later hb7 x0
                replace x1 := cell_later hb7 x1
                replace x2 := cell_later hb7 x2
                replace x3 := cell_later hb7 x3
                replace x4 := cell_later hb7 x4
                go_wp2_with (fail)
                refine (f3 _).mono ?_
                rintro e W8 ⟨rfl, hb8⟩
                have B8 := below_step B7 hb8 B7.size
                have hsz8 := Nat.lt_of_lt_of_le hsz7 hb8.size
                have hC8 := hC7.below hb8
                replace m0 := cell_later hb8 m0
                replace m1 := cell_later hb8 m1
                replace m2 := cell_later hb8 m2
                replace m3 := cell_later hb8 m3
                replace m4 := cell_later hb8 m4
                replace m5 := cell_later hb8 m5
                replace x0 := cell_later hb8 x0
                replace x1 := cell_later hb8 x1
                replace x2 := cell_later hb8 x2
                replace x3 := cell_later hb8 x3
                replace x4 := cell_later hb8 x4
                go_wp2
                go_ret
                exact ⟨ret_i (by first | exact HS.out.symm | (rw [HS.out]; simp)), by first | exact B9 | exact B8 | exact B7 | exact B2⟩
              · skip
                rw [hg0, hg1, hg2, hg3] at hdef
                have f0 := fun w => based_b (C i).B true hg0 w
                have f1 := fun w => mode_b (C i).W true hg1 w
                have f2 := fun w => ceil_b (C i).P true hg2 w
                have f3 := fun w => ceil_b (C i).Y true hg3 w
                have HB : Bds W2 (C i).b.A (C i).b.n (C i).b.F (C i).b.R (C i).b.E := by
                  obtain ⟨b', o', hA', hcc⟩ := hC2 hn0
                  exact (hcc i hlt).2.2.2.2.2.2
                have ck := fun w' (q : Bds w' _ _ _ _ _) => bandcheck_any (C i).b.A (C i).b.n (C i).b.c w' (C i).b.F (C i).b.R (C i).b.E q (HZ.out i hlt)
                simp only [Bool.and_self, if_true] at hdef
                by_cases hk : chk (C i).b.F (C i).b.R (C i).b.E (C i).b.n = 0
                · rw [hk] at ck hdef
                  have HS := Lib.hid (first_succ (f := conE C n) hs.out hdef)
                  clear hdef hs hk hg0 hg1 hg2 hg3
                  go_wp2_with (fail)
                  refine (f0 _).mono ?_
                  rintro e w' ⟨rfl, rfl⟩
                  go_wp2_with (fail)
                  refine (f1 _).mono ?_
                  rintro e w' ⟨rfl, rfl⟩
                  go_wp2_with (fail)
                  refine (f2 _).mono ?_
                  rintro e W7 ⟨rfl, hb7⟩
                  have B7 := below_step B2 hb7 B2.size
                  have hsz7 := Nat.lt_of_lt_of_le hsz2 hb7.size
                  have hC7 := hC2.below hb7
                  replace m0 := cell_later hb7 m0
                  replace m1 := cell_later hb7 m1
                  replace m2 := cell_later hb7 m2
                  replace m3 := cell_later hb7 m3
                  replace m4 := cell_later hb7 m4
                  replace m5 := cell_later hb7 m5
                  replace x0 := cell_later hb7 x0
                  replace x1 := cell_later hb7 x1
                  replace x2 := cell_later hb7 x2
                  replace x3 := cell_later hb7 x3
                  replace x4 := cell_later hb7 x4
                  go_wp2_with (fail)
                  refine (f3 _).mono ?_
                  rintro e W8 ⟨rfl, hb8⟩
                  have B8 := below_step B7 hb8 B7.size
                  have hsz8 := Nat.lt_of_lt_of_le hsz7 hb8.size
                  have hC8 := hC7.below hb8
                  replace m0 := cell_later hb8 m0
                  replace m1 := cell_later hb8 m1
                  replace m2 := cell_later hb8 m2
                  replace m3 := cell_later hb8 m3
                  replace m4 := cell_later hb8 m4
                  replace m5 := cell_later hb8 m5
                  replace x0 := cell_later hb8 x0
                  replace x1 := cell_later hb8 x1
                  replace x2 := cell_later hb8 x2
                  replace x3 := cell_later hb8 x3
                  replace x4 := cell_later hb8 x4
                  go_wp2_with (fail)
                  refine (ck _ ((HB.below hb7).below hb8)).mono ?_
                  rintro e W9 ⟨rfl, hb9⟩
                  have B9 := below_step B8 hb9 B8.size
                  have hsz9 := Nat.lt_of_lt_of_le hsz8 hb9.size
                  replace x0 := cell_later hb9 x0
                  replace x1 := cell_later hb9 x1
                  replace x2 := cell_later hb9 x2
                  replace x3 := cell_later hb9 x3
                  replace x4 := cell_later hb9 x4
                  go_wp2
                  go_roundw
                  case rel => exact ⟨i + 1, by omega, HS, by go_num, B9, hsz9, x0, x1, x2, x3, x4⟩
                  case measure => first | omega | (simp [intOf]; omega)
                · have HS := Lib.hid ((first_stop (f := conE C n) hlt hs.out (by rw [hdef]; exact hk)).trans hdef)
                  have t3 : (chk (C i).b.F (C i).b.R (C i).b.E (C i).b.n != 0) = true := by simpa using hk
                  clear hdef hs hk hg0 hg1 hg2 hg3
                  generalize chk (C i).b.F (C i).b.R (C i).b.E (C i).b.n = cv at *
                  go_wp2_with (fail)
                  refine (f0 _).mono ?_
                  rintro e w' ⟨rfl, rfl⟩
                  go_wp2_with (fail)
                  refine (f1 _).mono ?_
                  rintro e w' ⟨rfl, rfl⟩
                  go_wp2_with (fail)
                  refine (f2 _).mono ?_
                  rintro e W7 ⟨rfl, hb7⟩
                  have B7 := below_step B2 hb7 B2.size
                  have hsz7 := Nat.lt_of_lt_of_le hsz2 hb7.size
                  have hC7 := hC2.below hb7
                  replace m0 := cell_later hb7 m0
                  replace m1 := cell_later hb7 m1
                  replace m2 := cell_later hb7 m2
                  replace m3 := cell_later hb7 m3
                  replace m4 := cell_later hb7 m4
                  replace m5 := cell_later hb7 m5
                  replace x0 := cell_later hb7 x0
                  replace x1 := cell_later hb7 x1
                  replace x2 := cell_later hb7 x2
                  replace x3 := cell_later hb7 x3
                  replace x4 := cell_later hb7 x4
                  go_wp2_with (fail)
                  refine (f3 _).mono ?_
                  rintro e W8 ⟨rfl, hb8⟩
                  have B8 := below_step B7 hb8 B7.size
                  have hsz8 := Nat.lt_of_lt_of_le hsz7 hb8.size
                  have hC8 := hC7.below hb8
                  replace m0 := cell_later hb8 m0
                  replace m1 := cell_later hb8 m1
                  replace m2 := cell_later hb8 m2
                  replace m3 := cell_later hb8 m3
                  replace m4 := cell_later hb8 m4
                  replace m5 := cell_later hb8 m5
                  replace x0 := cell_later hb8 x0
                  replace x1 := cell_later hb8 x1
                  replace x2 := cell_later hb8 x2
                  replace x3 := cell_later hb8 x3
                  replace x4 := cell_later hb8 x4
                  go_wp2_with (fail)
                  refine (ck _ ((HB.below hb7).below hb8)).mono ?_
                  rintro e W9 ⟨rfl, hb9⟩
                  have B9 := below_step B8 hb9 B8.size
                  go_wp2
                  go_ret
                  exact ⟨ret_i HS.out.symm, B9⟩
      · rw [if_neg hv0] at hdef
        have HS := Lib.hid ((first_stop (f := conE C n) hlt hs.out (by rw [hdef]; exact hv0)).trans hdef)
        have t3 : (v != 0) = true := by simpa using hv0
        clear hdef hs hv0
        go_wp2
        go_ret
        exact ⟨ret_i HS.out.symm, B2⟩
    · obtain rfl : i = n := by omega
      have HS := Lib.hid hs.out
      clear hs
      go_wp2
      go_ret
      exact ⟨ret_i HS.out.symm, hb⟩
set_option maxHeartbeats 4000000 in
set_option maxRecDepth 100000 in
theorem kinds_any (w : World) (A A1 A2 : Option Addr) (n c n1 c1 n2 c2 : Nat) (L W : Int) (C : Nat → KB) (h : KinM w A n C) (hn : n ≤ 9223372036854775807) :
    Calls Tryd.prog 105 #[.agg #[.slice A1 n1 c1, .slice A2 n2 c2, .slice A n c, .int .i64 L, .int .i64 W]] w fun e w' => e = .returned (.int .i64 (kinsE C n)) ∧ Below w.heap.size w w' := by
  unfold kinsE
  by_cases h0 : n = 0
  · subst h0
    go_enter Tryd.func105, Tryd.ntmps105
    go_wp2
    go_ret
    exact ⟨rfl, (Below.refl _ _).alloc (Nat.le_refl _) _⟩
  have t1 : ((n : Int) == 0) = false := by simp; omega
  by_cases h6 : 12 < n
  · rw [if_pos (by omega)]
    have t2 : (12 : Int) < n := by omega
    clear h
    go_enter Tryd.func105, Tryd.ntmps105
    go_wp2
    go_ret
    exact ⟨rfl, (Below.refl _ _).alloc (Nat.le_refl _) _⟩
  rw [if_neg (by omega)]
  have t2 : ¬ (12 : Int) < n := by omega
  have cn := fun w' (q : KinM w' A n C) N => kindno_any w' A A1 A2 n c n1 c1 n2 c2 L W C N q hn
  have hx : n ≤ 12 := by omega
  clear h6
  go_enter Tryd.func105, Tryd.ntmps105
  go_wp2
  go_loopw [19] (fun k W' => ∃ i : Nat, i ≤ n ∧ Hid (firstE (kinE C n) i = 0) ∧ k = .int .i64 i ∧ Below w.heap.size w W' ∧ w.heap.size < W'.heap.size ∧ W'.cell? ⟨w.heap.size, 0, none⟩ = some (.slice A1 n1 c1) ∧ W'.cell? ⟨w.heap.size, 1, none⟩ = some (.slice A2 n2 c2) ∧ W'.cell? ⟨w.heap.size, 2, none⟩ = some (.slice A n c) ∧ W'.cell? ⟨w.heap.size, 3, none⟩ = some (.int .i64 L) ∧ W'.cell? ⟨w.heap.size, 4, none⟩ = some (.int .i64 W)) (fun k _ => n - (intOf k).toNat)
  case atStart => exact ⟨0, Nat.zero_le _, Lib.hid rfl, rfl, (Below.refl _ _).alloc (Nat.le_refl _) _, by simp, by simp [go_sem], by simp [go_sem], by simp [go_sem], by simp [go_sem], by simp [go_sem]⟩
  case round =>
    obtain ⟨i, hi, hs, rfl, hb, hsz, z0, z1, z2, z3, z4⟩ := hrel
    by_cases hlt : i < n
    · have hC := h.below hb
      have hn0 : 0 < n := by omega
      obtain ⟨b, o, rfl, hcc⟩ := id (h hn0)
      obtain ⟨g0, g1, g2, g3⟩ := hcc i hlt
      clear hcc
      have d0 := cell_later hb g0
      have d1 := cell_later hb g1
      have d2 := cell_later hb g2
      have d3 := cell_later hb g3
      clear g0 g1 g2 g3
      have e0 : (wr.alloc (.cells #[.string (C i).N, .int .i64 (C i).c, .int .i64 (C i).t, .int .i64 (C i).s] 223)).cell? ⟨wr.heap.size, 0, none⟩ = some (.string (C i).N) := by simp [go_sem]
      have e1 : (wr.alloc (.cells #[.string (C i).N, .int .i64 (C i).c, .int .i64 (C i).t, .int .i64 (C i).s] 223)).cell? ⟨wr.heap.size, 1, none⟩ = some (.int .i64 (C i).c) := by simp [go_sem]
      have e2 : (wr.alloc (.cells #[.string (C i).N, .int .i64 (C i).c, .int .i64 (C i).t, .int .i64 (C i).s] 223)).cell? ⟨wr.heap.size, 2, none⟩ = some (.int .i64 (C i).t) := by simp [go_sem]
      have e3 : (wr.alloc (.cells #[.string (C i).N, .int .i64 (C i).c, .int .i64 (C i).t, .int .i64 (C i).s] 223)).cell? ⟨wr.heap.size, 3, none⟩ = some (.int .i64 (C i).s) := by simp [go_sem]
      have hN := below_new wr (.cells #[.string (C i).N, .int .i64 (C i).c, .int .i64 (C i).t, .int .i64 (C i).s] 223)
      have y0 := cell_later hN z0
      have y1 := cell_later hN z1
      have y2 := cell_later hN z2
      have y3 := cell_later hN z3
      have y4 := cell_later hN z4
      have hC1 := hC.below hN
      have B1 := below_step hb hN hb.size
      have hsz1 : w.heap.size < (wr.alloc (.cells #[.string (C i).N, .int .i64 (C i).c, .int .i64 (C i).t, .int .i64 (C i).s] 223)).heap.size := by simp; omega
      have hq : wr.heap.size ≠ w.heap.size := by omega
      go_wp2_with (fail)
      generalize wr.alloc (.cells #[.string (C i).N, .int .i64 (C i).c, .int .i64 (C i).t, .int .i64 (C i).s] 223) = W1 at *
      generalize hpn : wr.heap.size = pn at *
      clear hN hC hb d0 d1 d2 d3 z0 z1 z2 z3 z4
      have k0 := fun d os => cell_regrown e0 d os
      have q0 := fun d os => cell_regrown y0 d os
      have q1 := fun d os => cell_regrown y1 d os
      have q2 := fun d os => cell_regrown y2 d os
      have q3 := fun d os => cell_regrown y3 d os
      have q4 := fun d os => cell_regrown y4 d os
      have cA := fun (d : Nat) (os : Array Obj) => Calls.regrown_of (d := d) (os := os) (w := W1) (cn _ (hC1.below (below_regrown W1 d os)) (C i).N)
      have hdef := kinE_eq C n i
      generalize hix : kinI C (C i).N n = ix at *
      generalize hv : nm (C i).N (decide (ix < (i : Int))) = v at *
      have cB := fun (d : Nat) (os : Array Obj) => Calls.regrown_of (d := d) (os := os) (w := W1) (to_below (lookname_v (C i).N (decide (ix < (i : Int))) v hv (grow (redrawn W1 d) os)))
      clear hix hv
      refine wp_region_quiet_below mixedT (by kernel_rfl) ?_
      iterate 5 (go_big_quiet_step (fail))
      go_big_quiet_step (exact cA _ _)
      iterate 2 (go_big_quiet_step (fail))
      go_big_quiet_step (exact cB _ _)
      repeat (go_big_quiet_step (fail))
      refine wpQuiet_nil ?_
      intro _ hw'
      obtain ⟨⟨dq, osq⟩, hw''⟩ := hw'
      subst hw''
      have hR := below_regrown W1 dq osq
      have m0 := cell_later hR e0
      have m1 := cell_later hR e1
      have m2 := cell_later hR e2
      have m3 := cell_later hR e3
      have x0 := cell_later hR y0
      have x1 := cell_later hR y1
      have x2 := cell_later hR y2
      have x3 := cell_later hR y3
      have x4 := cell_later hR y4
      have B2 := below_step B1 hR B1.size
      have hsz2 := Nat.lt_of_lt_of_le hsz1 hR.size
      have hC2 := hC1.below hR
      generalize grow (redrawn W1 dq) osq = W2 at *
      clear hR hC1 B1 hsz1 cA cB k0 q0 q1 q2 q3 q4 e0 e1 e2 e3 y0 y1 y2 y3 y4
      by_cases hv0 : v = 0
      · subst hv0
        rw [if_pos rfl] at hdef
        cases hg0 : sgnB (C i).c
        · rw [hg0] at hdef
          simp only [Bool.false_and, Bool.true_and, Bool.and_false, Bool.false_eq_true, if_false] at hdef
          have f0 := fun w => signed_b (C i).c false hg0 w
          have HS := Lib.hid ((first_stop (f := kinE C n) hlt hs.out (by rw [hdef]; simp)).trans hdef)
          clear hdef hs hg0
          go_wp2_with (fail)
          refine (f0 _).mono ?_
          rintro e w' ⟨rfl, rfl⟩
          go_wp2
          go_ret
          exact ⟨ret_i (by first | exact HS.out.symm | (rw [HS.out]; simp)), by first | exact B9 | exact B8 | exact B7 | exact B2⟩
        · skip
          cases hg1 : sgnB (C i).t
          · rw [hg0, hg1] at hdef
            simp only [Bool.false_and, Bool.true_and, Bool.and_false, Bool.false_eq_true, if_false] at hdef
            have f0 := fun w => signed_b (C i).c true hg0 w
            have f1 := fun w => signed_b (C i).t false hg1 w
            have HS := Lib.hid ((first_stop (f := kinE C n) hlt hs.out (by rw [hdef]; simp)).trans hdef)
            clear hdef hs hg0 hg1
            go_wp2_with (fail)
            refine (f0 _).mono ?_
            rintro e w' ⟨rfl, rfl⟩
            go_wp2_with (fail)
            refine (f1 _).mono ?_
            rintro e w' ⟨rfl, rfl⟩
            go_wp2
            go_ret
            exact ⟨ret_i (by first | exact HS.out.symm | (rw [HS.out]; simp)), by first | exact B9 | exact B8 | exact B7 | exact B2⟩
          · skip
            cases hg2 : sgnB (C i).s
            · rw [hg0, hg1, hg2] at hdef
              simp only [Bool.false_and, Bool.true_and, Bool.and_false, Bool.false_eq_true, if_false] at hdef
              have f0 := fun w => signed_b (C i).c true hg0 w
              have f1 := fun w => signed_b (C i).t true hg1 w
              have f2 := fun w => signed_b (C i).s false hg2 w
              have HS := Lib.hid ((first_stop (f := kinE C n) hlt hs.out (by rw [hdef]; simp)).trans hdef)
              clear hdef hs hg0 hg1 hg2
              go_wp2_with (fail)
              refine (f0 _).mono ?_
              rintro e w' ⟨rfl, rfl⟩
              go_wp2_with (fail)
              refine (f1 _).mono ?_
              rintro e w' ⟨rfl, rfl⟩
              go_wp2_with (fail)
              refine (f2 _).mono ?_
              rintro e w' ⟨rfl, rfl⟩
              go_wp2
              go_ret
              exact ⟨ret_i (by first | exact HS.out.symm | (rw [HS.out]; simp)), by first | exact B9 | exact B8 | exact B7 | exact B2⟩
            · skip
              rw [hg0, hg1, hg2] at hdef
              have f0 := fun w => signed_b (C i).c true hg0 w
              have f1 := fun w => signed_b (C i).t true hg1 w
              have f2 := fun w => signed_b (C i).s true hg2 w
              simp only [Bool.and_self, if_true] at hdef
              have HS := Lib.hid (first_succ (f := kinE C n) hs.out hdef)
              clear hdef hs hg0 hg1 hg2
              go_wp2_with (fail)
              refine (f0 _).mono ?_
              rintro e w' ⟨rfl, rfl⟩
              go_wp2_with (fail)
              refine (f1 _).mono ?_
              rintro e w' ⟨rfl, rfl⟩
              go_wp2_with (fail)
              refine (f2 _).mono ?_
              rintro e w' ⟨rfl, rfl⟩
              go_wp2
              go_roundw
              case rel => exact ⟨i + 1, by omega, HS, by go_num, B2, hsz2, x0, x1, x2, x3, x4⟩
              case measure => first | omega | (simp [intOf]; omega)
      · rw [if_neg hv0] at hdef
        have HS := Lib.hid ((first_stop (f := kinE C n) hlt hs.out (by rw [hdef]; exact hv0)).trans hdef)
        have t3 : (v != 0) = true := by simpa using hv0
        clear hdef hs hv0
        go_wp2
        go_ret
        exact ⟨ret_i HS.out.symm, B2⟩
    · obtain rfl : i = n := by omega
      have HS := Lib.hid hs.out
      clear hs
      go_wp2
      go_ret
      exact ⟨ret_i HS.out.symm, hb⟩
end Go.Proofs.YtffihnbpjcgicaaDoor

/- What table.Check answers of any table. -/
namespace Go.Proofs.YtffihnbpjcgicaaDoor
open Go.RowKit
set_option linter.unusedVariables false
set_option linter.unusedSimpArgs false

/-- what is known of the sizes of a table -/
structure Tsz (T : TB) : Prop where
  c : T.nC ≤ 9223372036854775807
  k : T.nK ≤ 9223372036854775807
  sb : T.nS ≤ 8 → ∀ i, i < T.nS → (T.S i).n ≤ 9223372036854775807
  cb : T.nC ≤ 6 → ∀ i, i < T.nC → (T.C i).b.n ≤ 9223372036854775807
def chkR (h s c k : Int) : Int := if h = 0 then (if s = 0 then (if c = 0 then k else c) else s) else h
theorem looks_any (w : World) : Calls Tryd.prog 73 #[] w fun e w' => e = .returned (.agg #[.func (.func 102) #[] #[], .func (.func 103) #[] #[], .func (.func 104) #[] #[], .func (.func 105) #[] #[]]) ∧ Below w.heap.size w w' := by
  go_enter Tryd.func73, Tryd.ntmps73
  go_wp2
  exact bodyPost_ret (v := .agg #[.func (.func 102) #[] #[], .func (.func 103) #[] #[], .func (.func 104) #[] #[], .func (.func 105) #[] #[]]) (by simp [results, Tryd.results73, go_sem]) rfl ⟨rfl, (Below.refl _ _).alloc (Nat.le_refl _) _⟩
theorem look_0 (W : World) : (Instr.index 154 (.agg #[.func (.func 102) #[] #[], .func (.func 103) #[] #[], .func (.func 104) #[] #[], .func (.func 105) #[] #[]]) (.int .i64 0)).run Tryd.prog W = .ok (.func (.func 102) #[] #[]) W := by kernel_rfl
theorem look_1 (W : World) : (Instr.index 154 (.agg #[.func (.func 102) #[] #[], .func (.func 103) #[] #[], .func (.func 104) #[] #[], .func (.func 105) #[] #[]]) (.int .i64 1)).run Tryd.prog W = .ok (.func (.func 103) #[] #[]) W := by kernel_rfl
theorem look_2 (W : World) : (Instr.index 154 (.agg #[.func (.func 102) #[] #[], .func (.func 103) #[] #[], .func (.func 104) #[] #[], .func (.func 105) #[] #[]]) (.int .i64 2)).run Tryd.prog W = .ok (.func (.func 104) #[] #[]) W := by kernel_rfl
theorem look_3 (W : World) : (Instr.index 154 (.agg #[.func (.func 102) #[] #[], .func (.func 103) #[] #[], .func (.func 104) #[] #[], .func (.func 105) #[] #[]]) (.int .i64 3)).run Tryd.prog W = .ok (.func (.func 105) #[] #[]) W := by kernel_rfl
set_option maxHeartbeats 2000000 in
set_option maxRecDepth 100000 in
theorem check_tab (w : World) (T : TB) (h : Tm w T) (hz : Tsz T) :
    Calls Tryd.prog 31 #[T.v] w fun e w' => e = .returned (.int .i64 T.chk) ∧ Below w.heap.size w w' := by
  have H1 := fun w => head_any w T.AS T.AC T.AK T.nS T.nC T.nK T.cS T.cC T.cK T.L T.W
  have H2 := fun w' (q : Tm w' T) => schemes_any w' T.AS T.AC T.AK T.nS T.nC T.nK T.cS T.cC T.cK T.L T.W T.S q.1 hz.sb
  have H3 := fun w' (q : Tm w' T) => contribs_any w' T.AC T.AS T.AK T.nC T.cC T.nS T.cS T.nK T.cK T.L T.W T.C q.2.1 hz.c hz.cb
  have H4 := fun w' (q : Tm w' T) => kinds_any w' T.AK T.AS T.AC T.nK T.cK T.nS T.cS T.nC T.cC T.L T.W T.K q.2.2 hz.k
  have hR : T.chk = chkR (headE T.L T.W) (schsE T.S T.nS) (consE T.C T.nC) (kinsE T.K T.nK) := rfl
  rw [hR]
  clear hR
  generalize headE T.L T.W = v1 at *
  generalize schsE T.S T.nS = v2 at *
  generalize consE T.C T.nC = v3 at *
  generalize kinsE T.K T.nK = v4 at *
  unfold chkR
  obtain ⟨AS, nS, cS, AC, nC, cC, AK, nK, cK, L, W, S, C, K⟩ := T
  dsimp only [TB.v] at *
  have B0 := below_new w (.cells #[.slice AS nS cS, .slice AC nC cC, .slice AK nK cK, .int .i64 L, .int .i64 W] 71)
  have M0 := h.below B0
  have hsz0 : w.heap.size < (w.alloc (.cells #[.slice AS nS cS, .slice AC nC cC, .slice AK nK cK, .int .i64 L, .int .i64 W] 71)).heap.size := by simp
  obtain ⟨z0, z1, z2, z3, z4⟩ := cells5 w (.slice AS nS cS) (.slice AC nC cC) (.slice AK nK cK) (.int .i64 L) (.int .i64 W) 71
  have LK := fun w => looks_any w
  have ix0 := look_0
  have ix1 := look_1
  have ix2 := look_2
  have ix3 := look_3
  generalize hw1 : w.alloc (.cells #[.slice AS nS cS, .slice AC nC cC, .slice AK nK cK, .int .i64 L, .int .i64 W] 71) = w1 at *
  by_cases h1 : v1 = 0
  · skip
    rw [if_pos h1]
    subst h1
    by_cases h2 : v2 = 0
    · skip
      rw [if_pos h2]
      subst h2
      by_cases h3 : v3 = 0
      · skip
        rw [if_pos h3]
        subst h3
        by_cases h4 : v4 = 0
        · skip
          subst h4
          go_enter Tryd.func31, Tryd.ntmps31
          go_wp2_with (fail)
          refine (LK _).mono ?_
          rintro e w2 ⟨rfl, hb⟩
          have B1 := below_step B0 hb B0.size
          have M1 := M0.below hb
          replace z0 := cell_later hb z0
          replace z1 := cell_later hb z1
          replace z2 := cell_later hb z2
          replace z3 := cell_later hb z3
          replace z4 := cell_later hb z4
          clear hb
          go_wp2_with (fail)
          refine wp_loop_rounds 5 ?_
          rw [rounds_succ]
          go_wp2_with (fail)
          refine (H1 _).mono ?_
          rintro e w3 ⟨rfl, hb⟩
          have B2 := below_step B1 hb B1.size
          have M2 := M1.below hb
          replace z0 := cell_later hb z0
          replace z1 := cell_later hb z1
          replace z2 := cell_later hb z2
          replace z3 := cell_later hb z3
          replace z4 := cell_later hb z4
          clear hb
          go_wp2_with (fail)
          rw [rounds_succ]
          go_wp2_with (fail)
          refine (H2 _ M2).mono ?_
          rintro e w4 ⟨rfl, hb⟩
          have B3 := below_step B2 hb B2.size
          have M3 := M2.below hb
          replace z0 := cell_later hb z0
          replace z1 := cell_later hb z1
          replace z2 := cell_later hb z2
          replace z3 := cell_later hb z3
          replace z4 := cell_later hb z4
          clear hb
          go_wp2_with (fail)
          rw [rounds_succ]
          go_wp2_with (fail)
          refine (H3 _ M3).mono ?_
          rintro e w5 ⟨rfl, hb⟩
          have B4 := below_step B3 hb B3.size
          have M4 := M3.below hb
          replace z0 := cell_later hb z0
          replace z1 := cell_later hb z1
          replace z2 := cell_later hb z2
          replace z3 := cell_later hb z3
          replace z4 := cell_later hb z4
          clear hb
          go_wp2_with (fail)
          rw [rounds_succ]
          go_wp2_with (fail)
          refine (H4 _ M4).mono ?_
          rintro e w6 ⟨rfl, hb⟩
          have B5 := below_step B4 hb B4.size
          have M5 := M4.below hb
          replace z0 := cell_later hb z0
          replace z1 := cell_later hb z1
          replace z2 := cell_later hb z2
          replace z3 := cell_later hb z3
          replace z4 := cell_later hb z4
          clear hb
          go_wp2_with (fail)
          rw [rounds_succ]
          go_wp2
          go_ret
          exact ⟨rfl, B5⟩
        · have t4 : (v4 != 0) = true := by simpa using h4
          clear h4
          go_enter Tryd.func31, Tryd.ntmps31
          go_wp2_with (fail)
          refine (LK _).mono ?_
          rintro e w2 ⟨rfl, hb⟩
          have B1 := below_step B0 hb B0.size
          have M1 := M0.below hb
          replace z0 := cell_later hb z0
          replace z1 := cell_later hb z1
          replace z2 := cell_later hb z2
          replace z3 := cell_later hb z3
          replace z4 := cell_later hb z4
          clear hb
          go_wp2_with (fail)
          refine wp_loop_rounds 5 ?_
          rw [rounds_succ]
          go_wp2_with (fail)
          refine (H1 _).mono ?_
          rintro e w3 ⟨rfl, hb⟩
          have B2 := below_step B1 hb B1.size
          have M2 := M1.below hb
          replace z0 := cell_later hb z0
          replace z1 := cell_later hb z1
          replace z2 := cell_later hb z2
          replace z3 := cell_later hb z3
          replace z4 := cell_later hb z4
          clear hb
          go_wp2_with (fail)
          rw [rounds_succ]
          go_wp2_with (fail)
          refine (H2 _ M2).mono ?_
          rintro e w4 ⟨rfl, hb⟩
          have B3 := below_step B2 hb B2.size
          have M3 := M2.below hb
          replace z0 := cell_later hb z0
          replace z1 := cell_later hb z1
          replace z2 := cell_later hb z2
          replace z3 := cell_later hb z3
          replace z4 := cell_later hb z4
          clear hb
          go_wp2_with (fail)
          rw [rounds_succ]
          go_wp2_with (fail)
          refine (H3 _ M3).mono ?_
          rintro e w5 ⟨rfl, hb⟩
          have B4 := below_step B3 hb B3.size
          have M4 := M3.below hb
          replace z0 := cell_later hb z0
          replace z1 := cell_later hb z1
          replace z2 := cell_later hb z2
          replace z3 := cell_later hb z3
          replace z4 := cell_later hb z4
          clear hb
          go_wp2_with (fail)
          rw [rounds_succ]
          go_wp2_with (fail)
          refine (H4 _ M4).mono ?_
          rintro e w6 ⟨rfl, hb⟩
          have B5 := below_step B4 hb B4.size
          have M5 := M4.below hb
          replace z0 := cell_later hb z0
          replace z1 := cell_later hb z1
          replace z2 := cell_later hb z2
          replace z3 := cell_later hb z3
          replace z4 := cell_later hb z4
          clear hb
          go_wp2
          go_ret
          exact ⟨rfl, B5⟩
      · have t3 : (v3 != 0) = true := by simpa using h3
        rw [if_neg h3]
        clear h3
        go_enter Tryd.func31, Tryd.ntmps31
        go_wp2_with (fail)
        refine (LK _).mono ?_
        rintro e w2 ⟨rfl, hb⟩
        have B1 := below_step B0 hb B0.size
        have M1 := M0.below hb
        replace z0 := cell_later hb z0
        replace z1 := cell_later hb z1
        replace z2 := cell_later hb z2
        replace z3 := cell_later hb z3
        replace z4 := cell_later hb z4
        clear hb
        go_wp2_with (fail)
        refine wp_loop_rounds 5 ?_
        rw [rounds_succ]
        go_wp2_with (fail)
        refine (H1 _).mono ?_
        rintro e w3 ⟨rfl, hb⟩
        have B2 := below_step B1 hb B1.size
        have M2 := M1.below hb
        replace z0 := cell_later hb z0
        replace z1 := cell_later hb z1
        replace z2 := cell_later hb z2
        replace z3 := cell_later hb z3
        replace z4 := cell_later hb z4
        clear hb
        go_wp2_with (fail)
        rw [rounds_succ]
        go_wp2_with (fail)
        refine (H2 _ M2).mono ?_
        rintro e w4 ⟨rfl, hb⟩
        have B3 := below_step B2 hb B2.size
        have M3 := M2.below hb
        replace z0 := cell_later hb z0
        replace z1 := cell_later hb z1
        replace z2 := cell_later hb z2
        replace z3 := cell_later hb z3
        replace z4 := cell_later hb z4
        clear hb
        go_wp2_with (fail)
        rw [rounds_succ]
        go_wp2_with (fail)
        refine (H3 _ M3).mono ?_
        rintro e w5 ⟨rfl, hb⟩
        have B4 := below_step B3 hb B3.size
        have M4 := M3.below hb
        replace z0 := cell_later hb z0
        replace z1 := cell_later hb z1
        replace z2 := cell_later hb z2
        replace z3 := cell_later hb z3
        replace z4 := cell_later hb z4
        clear hb
        go_wp2
        go_ret
        exact ⟨rfl, B4⟩
    · have t2 : (v2 != 0) = true := by simpa using h2
      rw [if_neg h2]
      clear h2
      go_enter Tryd.func31, Tryd.ntmps31
      go_wp2_with (fail)
      refine (LK _).mono ?_
      rintro e w2 ⟨rfl, hb⟩
      have B1 := below_step B0 hb B0.size
      have M1 := M0.below hb
      replace z0 := cell_later hb z0
      replace z1 := cell_later hb z1
      replace z2 := cell_later hb z2
      replace z3 := cell_later hb z3
      replace z4 := cell_later hb z4
      clear hb
      go_wp2_with (fail)
      refine wp_loop_rounds 5 ?_
      rw [rounds_succ]
      go_wp2_with (fail)
      refine (H1 _).mono ?_
      rintro e w3 ⟨rfl, hb⟩
      have B2 := below_step B1 hb B1.size
      have M2 := M1.below hb
      replace z0 := cell_later hb z0
      replace z1 := cell_later hb z1
      replace z2 := cell_later hb z2
      replace z3 := cell_later hb z3
      replace z4 := cell_later hb z4
      clear hb
      go_wp2_with (fail)
      rw [rounds_succ]
      go_wp2_with (fail)
      refine (H2 _ M2).mono ?_
      rintro e w4 ⟨rfl, hb⟩
      have B3 := below_step B2 hb B2.size
      have M3 := M2.below hb
      replace z0 := cell_later hb z0
      replace z1 := cell_later hb z1
      replace z2 := cell_later hb z2
      replace z3 := cell_later hb z3
      replace z4 := cell_later hb z4
      clear hb
      go_wp2
      go_ret
      exact ⟨rfl, B3⟩
  · have t1 : (v1 != 0) = true := by simpa using h1
    rw [if_neg h1]
    clear h1
    go_enter Tryd.func31, Tryd.ntmps31
    go_wp2_with (fail)
    refine (LK _).mono ?_
    rintro e w2 ⟨rfl, hb⟩
    have B1 := below_step B0 hb B0.size
    have M1 := M0.below hb
    replace z0 := cell_later hb z0
    replace z1 := cell_later hb z1
    replace z2 := cell_later hb z2
    replace z3 := cell_later hb z3
    replace z4 := cell_later hb z4
    clear hb
    go_wp2_with (fail)
    refine wp_loop_rounds 5 ?_
    rw [rounds_succ]
    go_wp2_with (fail)
    refine (H1 _).mono ?_
    rintro e w3 ⟨rfl, hb⟩
    have B2 := below_step B1 hb B1.size
    have M2 := M1.below hb
    replace z0 := cell_later hb z0
    replace z1 := cell_later hb z1
    replace z2 := cell_later hb z2
    replace z3 := cell_later hb z3
    replace z4 := cell_later hb z4
    clear hb
    go_wp2
    go_ret
    exact ⟨rfl, B2⟩
end Go.Proofs.YtffihnbpjcgicaaDoor
