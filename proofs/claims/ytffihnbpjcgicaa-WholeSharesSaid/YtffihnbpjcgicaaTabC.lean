/- What the calls of table answer that find names. -/
import Derived.Test.YtffihnbpjcgicaaTabB
namespace Go.Proofs.Ytffihnbpjcgicaa
open Go.RowKit
set_option linter.unusedVariables false
set_option linter.unusedSimpArgs false

theorem str_inj {a b : ByteArray} (h : a.toList = b.toList) : a = b := by
  rw [Lib.toList_data, Lib.toList_data] at h
  apply ByteArray.ext
  exact Array.toList_inj.1 h
theorem str_b (a b : ByteArray) (v : Bool) (h : decide (a = b) = v) : (a.toList == b.toList) = v := by
  subst h
  by_cases h : a = b
  · subst h; simp
  · rw [decide_eq_false h]
    simpa using fun q => h (str_inj q)
theorem con1_any (x : CB) (N : ByteArray) (p : Nat) (w : World) (hp : w.cell? ⟨p, 0, none⟩ = some (.string N)) (v : Bool) (hv : decide (x.N = N) = v) :
    Calls Try.prog 51 #[.agg #[.string x.N, .int .i64 x.B, .slice x.b.A x.b.n x.b.c, .int .i64 x.P, .int .i64 x.Y, .int .i64 x.W], .pointer (some ⟨p, 0, none⟩)] w fun e w' => e = .returned (.bool v) ∧ Below w.heap.size w w' := by
  have E := str_b x.N N v hv
  clear hv
  have hlt := World.block_lt_of_cell? _ _ hp
  have hq : p ≠ w.heap.size := by
    have : p < w.heap.size := hlt
    omega
  generalize x.N = M at *
  go_enter Try.func51, Try.ntmps51
  go_wp2
  go_ret
  exact ⟨rfl, (Below.refl _ _).alloc (Nat.le_refl _) _⟩
theorem kin1_any (x : KB) (N : ByteArray) (p : Nat) (w : World) (hp : w.cell? ⟨p, 0, none⟩ = some (.string N)) (v : Bool) (hv : decide (x.N = N) = v) :
    Calls Try.prog 53 #[.agg #[.string x.N, .int .i64 x.c, .int .i64 x.t, .int .i64 x.s], .pointer (some ⟨p, 0, none⟩)] w fun e w' => e = .returned (.bool v) ∧ Below w.heap.size w w' := by
  have E := str_b x.N N v hv
  clear hv
  have hlt := World.block_lt_of_cell? _ _ hp
  have hq : p ≠ w.heap.size := by
    have : p < w.heap.size := hlt
    omega
  generalize x.N = M at *
  go_enter Try.func53, Try.ntmps53
  go_wp2
  go_ret
  exact ⟨rfl, (Below.refl _ _).alloc (Nat.le_refl _) _⟩
set_option maxHeartbeats 1000000 in
theorem idxcon_any (A : Option Addr) (n c p : Nat) (w : World) (C : Nat → CB) (N : ByteArray) (h : ConM w A n C) (hn : n ≤ 9223372036854775807) (hp : w.cell? ⟨p, 0, none⟩ = some (.string N)) :
    Calls Try.prog 50 #[.slice A n c, .func (.func 51) #[] #[.pointer (some ⟨p, 0, none⟩)]] w fun e w' => e = .returned (.int .i64 (conI C N n)) ∧ Below w.heap.size w w' := by
  by_cases h0 : n = 0
  · subst h0
    go_enter Try.func50, Try.ntmps50
    go_wp2
    go_loopw [8] (fun k W => k = .int .i64 0 ∧ Below w.heap.size w W) (fun k _ => 0)
    case atStart => exact ⟨rfl, Below.refl _ _⟩
    case round =>
      obtain ⟨rfl, hb⟩ := hrel
      go_wp2
      go_ret
      exact ⟨rfl, hb⟩
  obtain ⟨b, o, rfl, hc⟩ := h (by omega)
  have HC := Lib.hid hc
  clear hc h
  go_enter Try.func50, Try.ntmps50
  go_wp2
  go_loopw [8] (fun k W => ∃ i : Nat, i ≤ n ∧ Hid (∀ j, j < i → decide ((C j).N = N) = false) ∧ k = .int .i64 i ∧ Below w.heap.size w W) (fun k _ => n - (intOf k).toNat)
  case atStart => exact ⟨0, Nat.zero_le _, Lib.hid fun j hj => absurd hj (Nat.not_lt_zero _), rfl, Below.refl _ _⟩
  case round =>
    obtain ⟨i, hi, hs, rfl, hb⟩ := hrel
    have hpp := cell_later hb hp
    by_cases hlt : i < n
    · obtain ⟨c0, c1, c2, c3, c4, c5, _⟩ := HC.out i hlt
      have d0 := cell_later hb c0
      have d1 := cell_later hb c1
      have d2 := cell_later hb c2
      have d3 := cell_later hb c3
      have d4 := cell_later hb c4
      have d5 := cell_later hb c5
      clear c0 c1 c2 c3 c4 c5
      cases hv : decide ((C i).N = N)
      · have f := fun w q => con1_any (C i) N p w q false hv
        have HS : Hid (∀ j, j < i + 1 → decide ((C j).N = N) = false) := Lib.hid fun j hj => by
          by_cases e : j = i
          · subst e; exact hv
          · exact hs.out j (by omega)
        clear hv hs
        go_wp2_with (fail)
        refine (f _ hpp).mono ?_
        rintro e w2 ⟨rfl, hb2⟩
        go_wp2
        go_roundw
        case rel => exact ⟨i + 1, by omega, HS, by go_num, below_step hb hb2 hb.size⟩
        case measure => first | omega | (simp [intOf]; omega)
      · have f := fun w q => con1_any (C i) N p w q true hv
        have HS := Lib.hid (idx_stop (p := fun j => decide ((C j).N = N)) hlt hs.out hv)
        clear hv hs
        go_wp2_with (fail)
        refine (f _ hpp).mono ?_
        rintro e w2 ⟨rfl, hb2⟩
        go_wp2
        go_ret
        exact ⟨ret_i HS.out.symm, below_step hb hb2 hb.size⟩
    · obtain rfl : i = n := by omega
      have HS := Lib.hid (idx_none (p := fun j => decide ((C j).N = N)) hs.out)
      clear hs
      go_wp2
      go_ret
      exact ⟨ret_i HS.out.symm, hb⟩
set_option maxHeartbeats 1000000 in
theorem idxkin_any (A : Option Addr) (n c p : Nat) (w : World) (C : Nat → KB) (N : ByteArray) (h : KinM w A n C) (hn : n ≤ 9223372036854775807) (hp : w.cell? ⟨p, 0, none⟩ = some (.string N)) :
    Calls Try.prog 52 #[.slice A n c, .func (.func 53) #[] #[.pointer (some ⟨p, 0, none⟩)]] w fun e w' => e = .returned (.int .i64 (kinI C N n)) ∧ Below w.heap.size w w' := by
  by_cases h0 : n = 0
  · subst h0
    go_enter Try.func52, Try.ntmps52
    go_wp2
    go_loopw [8] (fun k W => k = .int .i64 0 ∧ Below w.heap.size w W) (fun k _ => 0)
    case atStart => exact ⟨rfl, Below.refl _ _⟩
    case round =>
      obtain ⟨rfl, hb⟩ := hrel
      go_wp2
      go_ret
      exact ⟨rfl, hb⟩
  obtain ⟨b, o, rfl, hc⟩ := h (by omega)
  have HC := Lib.hid hc
  clear hc h
  go_enter Try.func52, Try.ntmps52
  go_wp2
  go_loopw [8] (fun k W => ∃ i : Nat, i ≤ n ∧ Hid (∀ j, j < i → decide ((C j).N = N) = false) ∧ k = .int .i64 i ∧ Below w.heap.size w W) (fun k _ => n - (intOf k).toNat)
  case atStart => exact ⟨0, Nat.zero_le _, Lib.hid fun j hj => absurd hj (Nat.not_lt_zero _), rfl, Below.refl _ _⟩
  case round =>
    obtain ⟨i, hi, hs, rfl, hb⟩ := hrel
    have hpp := cell_later hb hp
    by_cases hlt : i < n
    · obtain ⟨c0, c1, c2, c3⟩ := HC.out i hlt
      have d0 := cell_later hb c0
      have d1 := cell_later hb c1
      have d2 := cell_later hb c2
      have d3 := cell_later hb c3
      clear c0 c1 c2 c3
      cases hv : decide ((C i).N = N)
      · have f := fun w q => kin1_any (C i) N p w q false hv
        have HS : Hid (∀ j, j < i + 1 → decide ((C j).N = N) = false) := Lib.hid fun j hj => by
          by_cases e : j = i
          · subst e; exact hv
          · exact hs.out j (by omega)
        clear hv hs
        go_wp2_with (fail)
        refine (f _ hpp).mono ?_
        rintro e w2 ⟨rfl, hb2⟩
        go_wp2
        go_roundw
        case rel => exact ⟨i + 1, by omega, HS, by go_num, below_step hb hb2 hb.size⟩
        case measure => first | omega | (simp [intOf]; omega)
      · have f := fun w q => kin1_any (C i) N p w q true hv
        have HS := Lib.hid (idx_stop (p := fun j => decide ((C j).N = N)) hlt hs.out hv)
        clear hv hs
        go_wp2_with (fail)
        refine (f _ hpp).mono ?_
        rintro e w2 ⟨rfl, hb2⟩
        go_wp2
        go_ret
        exact ⟨ret_i HS.out.symm, below_step hb hb2 hb.size⟩
    · obtain rfl : i = n := by omega
      have HS := Lib.hid (idx_none (p := fun j => decide ((C j).N = N)) hs.out)
      clear hs
      go_wp2
      go_ret
      exact ⟨ret_i HS.out.symm, hb⟩
theorem contrib_any (w : World) (A A1 A2 : Option Addr) (n c n1 c1 n2 c2 : Nat) (L W : Int) (C : Nat → CB) (N : ByteArray) (h : ConM w A n C) (hn : n ≤ 9223372036854775807) :
    Calls Try.prog 38 #[.agg #[.slice A1 n1 c1, .slice A n c, .slice A2 n2 c2, .int .i64 L, .int .i64 W], .string N] w fun e w' => e = .returned (.int .i64 (conI C N n)) ∧ Below w.heap.size w w' := by
  have f := fun w p q r => idxcon_any A n c p w C N q hn r
  have b1 := below_new w (.cells #[.slice A1 n1 c1, .slice A n c, .slice A2 n2 c2, .int .i64 L, .int .i64 W] 26)
  have b2 := below_new (w.alloc (.cells #[.slice A1 n1 c1, .slice A n c, .slice A2 n2 c2, .int .i64 L, .int .i64 W] 26)) (.cells #[.string N] 9)
  have h1 := (h.below b1).below b2
  have B := below_step b1 b2 b1.size
  clear h b1 b2
  go_enter Try.func38, Try.ntmps38
  go_wp2_with (fail)
  refine (f _ _ h1 (by simp [go_sem])).mono ?_
  rintro e w2 ⟨rfl, hb2⟩
  go_wp2
  go_ret
  exact ⟨rfl, below_step B hb2 B.size⟩
theorem kindno_any (w : World) (A A1 A2 : Option Addr) (n c n1 c1 n2 c2 : Nat) (L W : Int) (C : Nat → KB) (N : ByteArray) (h : KinM w A n C) (hn : n ≤ 9223372036854775807) :
    Calls Try.prog 41 #[.agg #[.slice A1 n1 c1, .slice A2 n2 c2, .slice A n c, .int .i64 L, .int .i64 W], .string N] w fun e w' => e = .returned (.int .i64 (kinI C N n)) ∧ Below w.heap.size w w' := by
  have f := fun w p q r => idxkin_any A n c p w C N q hn r
  have b1 := below_new w (.cells #[.slice A1 n1 c1, .slice A2 n2 c2, .slice A n c, .int .i64 L, .int .i64 W] 26)
  have b2 := below_new (w.alloc (.cells #[.slice A1 n1 c1, .slice A2 n2 c2, .slice A n c, .int .i64 L, .int .i64 W] 26)) (.cells #[.string N] 9)
  have h1 := (h.below b1).below b2
  have B := below_step b1 b2 b1.size
  clear h b1 b2
  go_enter Try.func41, Try.ntmps41
  go_wp2_with (fail)
  refine (f _ _ h1 (by simp [go_sem])).mono ?_
  rintro e w2 ⟨rfl, hb2⟩
  go_wp2
  go_ret
  exact ⟨rfl, below_step B hb2 B.size⟩
theorem lookname_any (N : ByteArray) (t : Bool) (w : World) :
    Calls Try.prog 37 #[.string N, .bool t] w fun e w' => e = .returned (.int .i64 (nm N t)) ∧ w = w' := by
  unfold nm
  cases hn : nameB N.data.toList
  · have f := fun w => name_v N w
    rw [hn] at f
    clear hn
    go_enter Try.func37, Try.ntmps37
    go_wp2_with (fail)
    refine (f _).mono ?_
    rintro e w' ⟨rfl, rfl⟩
    go_wp2
    go_ret
    exact ⟨rfl, rfl⟩
  · have f := fun w => name_v N w
    rw [hn] at f
    clear hn
    cases t
    all_goals
      go_enter Try.func37, Try.ntmps37
      go_wp2_with (fail)
      refine (f _).mono ?_
      rintro e w' ⟨rfl, rfl⟩
      go_wp2
      go_ret
      exact ⟨rfl, rfl⟩
theorem lookname_v (N : ByteArray) (t : Bool) (v : Int) (h : nm N t = v) (w : World) :
    Calls Try.prog 37 #[.string N, .bool t] w fun e w' => e = .returned (.int .i64 v) ∧ w = w' := by
  subst h; exact lookname_any N t w
theorem based_b (x : Int) (v : Bool) (h : baseB x = v) (w : World) : Calls Try.prog 39 #[.int .i64 x] w fun e w' => e = .returned (.bool v) ∧ w = w' := by
  subst h
  unfold baseB
  by_cases h1 : x = 1
  · subst h1
    go_enter Try.func39, Try.ntmps39
    go_wp2
    go_ret
    exact ⟨rfl, rfl⟩
  · have t1 : (x == 1) = false := by simpa using h1
    rw [decide_eq_false h1]
    by_cases h2 : x = 2
    · have t2 : (x == 2) = true := by simpa using h2
      rw [decide_eq_true h2]
      clear h1 h2
      go_enter Try.func39, Try.ntmps39
      go_wp2
      go_ret
      exact ⟨rfl, rfl⟩
    · have t2 : (x == 2) = false := by simpa using h2
      rw [decide_eq_false h2]
      clear h1 h2
      go_enter Try.func39, Try.ntmps39
      go_wp2
      go_ret
      exact ⟨rfl, rfl⟩
theorem signed_b (x : Int) (v : Bool) (h : sgnB x = v) (w : World) : Calls Try.prog 42 #[.int .i64 x] w fun e w' => e = .returned (.bool v) ∧ w = w' := by
  subst h
  unfold sgnB
  by_cases h1 : -1 ≤ x
  · rw [decide_eq_true h1]
    by_cases h2 : x ≤ 1
    · rw [decide_eq_true h2]
      go_enter Try.func42, Try.ntmps42
      go_wp2
      go_ret
      exact ⟨rfl, rfl⟩
    · rw [decide_eq_false h2]
      go_enter Try.func42, Try.ntmps42
      go_wp2
      go_ret
      exact ⟨rfl, rfl⟩
  · rw [decide_eq_false h1]
    go_enter Try.func42, Try.ntmps42
    go_wp2
    go_ret
    exact ⟨rfl, rfl⟩
theorem ceil_b (x : Int) (v : Bool) (h : ceilB x = v) (w : World) : Calls Try.prog 40 #[.int .i64 x] w fun e w' => e = .returned (.bool v) ∧ Below w.heap.size w w' := by
  subst h
  unfold ceilB
  by_cases h1 : 0 ≤ x
  · rw [decide_eq_true h1]
    have rt := fun W b o h => right_at x W b o (amtB x) rfl h
    go_enter Try.func40, Try.ntmps40
    go_wp2_with (fail)
    refine (rt _ _ _ (by simp [go_sem])).mono ?_
    rintro e w' ⟨rfl, rfl⟩
    go_wp2
    go_ret
    exact ⟨rfl, (Below.refl _ _).alloc (Nat.le_refl _) _⟩
  · rw [decide_eq_false h1]
    go_enter Try.func40, Try.ntmps40
    go_wp2
    go_ret
    exact ⟨rfl, Below.refl _ _⟩
end Go.Proofs.Ytffihnbpjcgicaa
