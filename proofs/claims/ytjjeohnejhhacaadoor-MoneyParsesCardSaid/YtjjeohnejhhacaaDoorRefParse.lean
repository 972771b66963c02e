/- What the reference's reading of a text answers: its two loops as plain functions. -/
import Derived.Test.YtjjeohnejhhacaaDoorParseC
namespace Go.Proofs.YtjjeohnejhhacaaDoor
open Go.RowKit
set_option linter.unusedVariables false
set_option linter.unusedSimpArgs false

/-- where the first point stands; nothing, if there is what is no digit and no first point -/
def scan : Option Nat → Nat → List UInt8 → Option (Option Nat)
  | p, _, [] => some p
  | p, k, c :: r => if c.toNat = 46 ∧ p = none then scan (some k) (k + 1) r else if isDig c = true then scan p (k + 1) r else none
/-- the digits' number, whether it was too great, whether one of them isn't 0 -/
def digs : Int → Bool → Bool → List UInt8 → Int × Bool × Bool
  | n, g, s, [] => (n, g, s)
  | n, g, s, c :: r => if c.toNat = 46 then digs n g s r else if 10000000000000 < 10 * n + ((c.toNat : Int) - 48) then digs 0 true (s || decide (c.toNat ≠ 48)) r else digs (10 * n + ((c.toNat : Int) - 48)) g (s || decide (c.toNat ≠ 48)) r
def pI : Option Nat → Int
  | none => -1
  | some q => q
theorem scan_bound : ∀ (l : List UInt8) (p : Option Nat) (k : Nat) (q : Nat), (∀ j, p = some j → j < k) → scan p k l = some (some q) → q < k + l.length
  | [], p, k, q, hp, h => by
    simp only [scan, Option.some.injEq] at h
    have := hp q h
    simp only [List.length_nil]
    omega
  | c :: r, p, k, q, hp, h => by
    simp only [scan] at h
    simp only [List.length_cons]
    split at h
    · have := scan_bound r (some k) (k + 1) q (fun j e => by cases e; omega) h
      omega
    · split at h
      · have := scan_bound r p (k + 1) q (fun j e => by have := hp j e; omega) h
        omega
      · cases h
theorem scan_chars : ∀ (l : List UInt8) (p : Option Nat) (k : Nat) (v : Option Nat), scan p k l = some v → ∀ c ∈ l, c.toNat = 46 ∨ isDig c = true
  | [], _, _, _, _, c, hc => by cases hc
  | d :: r, p, k, v, h, c, hc => by
    simp only [scan] at h
    split at h
    · rename_i h1
      rcases List.mem_cons.1 hc with e | e
      · subst e; exact .inl h1.1
      · exact scan_chars r _ _ v h c e
    · split at h
      · rename_i h1
        rcases List.mem_cons.1 hc with e | e
        · subst e; exact .inr h1
        · exact scan_chars r _ _ v h c e
      · cases h
theorem char_at {t : ByteArray} {v : Option Nat} (h : scan none 0 t.data.toList = some v) {k : Nat} (hk : k < t.size) : t[k].toNat = 46 ∨ isDig t[k] = true := by
  refine scan_chars _ _ _ _ h _ ?_
  have : t.data.toList[k]? = some t[k] := by
    rw [List.getElem?_eq_getElem (by simpa using hk)]; rfl
  exact List.mem_of_getElem? this

set_option maxHeartbeats 2000000 in
set_option maxRecDepth 100000 in
theorem rp_none_t (s t : ByteArray) (w : World) (hs : s.size ≤ 4611686018427387904) (h0 : 0 < s.size) (h45 : s[0].toNat = 45) (ht : s.extract 1 s.size = t) (hN : scan none 0 t.data.toList = none) :
    Calls Tryd.prog 25 #[.string s] w fun e w' => e = .returned (.tuple #[.int .i64 0, .int .i64 5]) ∧ w = w' := by
  have HN := Lib.hid hN
  clear hN
  have a1 : (0 : Int) < s.size := by omega
  have a2 : ((s[0].toNat : Int) == 45) = true := by rw [beq_iff_eq]; omega
  have a3 : (1 : Int) ≤ s.size := by omega
  have hts : t.size = s.size - 1 := by rw [← ht, ByteArray.size_extract]; omega
  have hsz : t.size ≤ 4611686018427387904 := by omega
  go_enter Tryd.func25, Tryd.ntmps25
  go_wp2
  clear ht a1 a2 a3
  go_loop [5, 6] (fun p i => ∃ (k : Nat) (q : Option Nat), k ≤ t.size ∧ p = .int .i64 (pI q) ∧ i = .int .i64 k ∧ (∀ j, q = some j → j < k) ∧ Hid (scan q k (t.data.toList.drop k) = scan none 0 t.data.toList)) (fun _ i => t.size - (intOf i).toNat)
  case atStart => exact ⟨0, none, Nat.zero_le _, rfl, rfl, (fun j e => by cases e), Lib.hid (by simp)⟩
  case round =>
    obtain ⟨k, q, hk, rfl, rfl, hqk, HSC⟩ := hrel
    by_cases hlt : k < t.size
    · have hsc := HSC.out
      rw [drop_at t k hlt] at hsc
      simp only [scan] at hsc
      clear HSC
      by_cases hp : t[k].toNat = 46
      · have c46 : ((t[k].toNat : Int) == 46) = true := by rw [beq_iff_eq]; omega
        have cd : (t[k].toNat : Int) < 48 := by omega
        have cn : isDig t[k] = false := by simp [isDig]; omega
        cases q with
        | none =>
          rw [if_pos ⟨hp, rfl⟩] at hsc
          have HS := Lib.hid hsc
          clear hsc hp cd cn hqk
          simp only [pI]
          go_wp2
          go_round
          case rel => exact ⟨k + 1, some k, by omega, rfl, by go_num, (fun j e => by cases e; omega), HS⟩
          case measure => simp [intOf]; omega
        | some j =>
          have hne : ¬ (t[k].toNat = 46 ∧ some j = none) := by simp
          rw [if_neg hne, cn] at hsc
          simp only [Bool.false_eq_true, if_false] at hsc
          clear hne hp cn hqk
          simp only [pI]
          clear hsc
          go_wp2
          go_ret2
          exact ⟨rfl, rfl⟩
      · have c46 : ((t[k].toNat : Int) == 46) = false := by rw [beq_eq_false_iff_ne]; omega
        have hne : ¬ (t[k].toNat = 46 ∧ q = none) := fun h => hp h.1
        rw [if_neg hne] at hsc
        clear hne hp
        cases cn : isDig t[k]
        · rw [cn] at hsc
          simp only [Bool.false_eq_true, if_false] at hsc
          have cd := isDig_no cn
          clear cn hqk
          clear hsc
          rcases cd with cd | cd
          · go_wp2
            go_ret2
            exact ⟨rfl, rfl⟩
          · have cd2 : ¬ (t[k].toNat : Int) < 48 := by omega
            go_wp2
            go_ret2
            exact ⟨rfl, rfl⟩
        · rw [cn] at hsc
          simp only [if_true] at hsc
          have HS := Lib.hid hsc
          obtain ⟨d1, d2⟩ := isDig_yes cn
          clear hsc cn
          have HQ := Lib.hid hqk
          clear hqk
          go_wp2
          go_round
          case rel => exact ⟨k + 1, q, by omega, rfl, by go_num, (fun j e => by have := HQ.out j e; omega), HS⟩
          case measure => simp [intOf]; omega
    · obtain rfl : k = t.size := by omega
      have hsc := HSC.out
      rw [List.drop_of_length_le (by simp)] at hsc
      simp only [scan] at hsc
      clear HSC
      exact absurd (hsc.trans HN.out) (by simp)

set_option maxHeartbeats 2000000 in
set_option maxRecDepth 100000 in
theorem rp_none_f (s : ByteArray) (w : World) (hs : s.size ≤ 4611686018427387904) (h0 : 0 < s.size) (h45 : s[0].toNat ≠ 45) (hN : scan none 0 s.data.toList = none) :
    Calls Tryd.prog 25 #[.string s] w fun e w' => e = .returned (.tuple #[.int .i64 0, .int .i64 5]) ∧ w = w' := by
  have HN := Lib.hid hN
  clear hN
  have a1 : (0 : Int) < s.size := by omega
  have a2 : ((s[0].toNat : Int) == 45) = false := by rw [beq_eq_false_iff_ne]; omega
  go_enter Tryd.func25, Tryd.ntmps25
  go_wp2
  go_loop [5, 6] (fun p i => ∃ (k : Nat) (q : Option Nat), k ≤ s.size ∧ p = .int .i64 (pI q) ∧ i = .int .i64 k ∧ (∀ j, q = some j → j < k) ∧ Hid (scan q k (s.data.toList.drop k) = scan none 0 s.data.toList)) (fun _ i => s.size - (intOf i).toNat)
  case atStart => exact ⟨0, none, Nat.zero_le _, rfl, rfl, (fun j e => by cases e), Lib.hid (by simp)⟩
  case round =>
    obtain ⟨k, q, hk, rfl, rfl, hqk, HSC⟩ := hrel
    by_cases hlt : k < s.size
    · have hsc := HSC.out
      rw [drop_at s k hlt] at hsc
      simp only [scan] at hsc
      clear HSC
      by_cases hp : s[k].toNat = 46
      · have c46 : ((s[k].toNat : Int) == 46) = true := by rw [beq_iff_eq]; omega
        have cd : (s[k].toNat : Int) < 48 := by omega
        have cn : isDig s[k] = false := by simp [isDig]; omega
        cases q with
        | none =>
          rw [if_pos ⟨hp, rfl⟩] at hsc
          have HS := Lib.hid hsc
          clear hsc hp cd cn hqk
          simp only [pI]
          go_wp2
          go_round
          case rel => exact ⟨k + 1, some k, by omega, rfl, by go_num, (fun j e => by cases e; omega), HS⟩
          case measure => simp [intOf]; omega
        | some j =>
          have hne : ¬ (s[k].toNat = 46 ∧ some j = none) := by simp
          rw [if_neg hne, cn] at hsc
          simp only [Bool.false_eq_true, if_false] at hsc
          clear hne hp cn hqk
          simp only [pI]
          clear hsc
          go_wp2
          go_ret2
          exact ⟨rfl, rfl⟩
      · have c46 : ((s[k].toNat : Int) == 46) = false := by rw [beq_eq_false_iff_ne]; omega
        have hne : ¬ (s[k].toNat = 46 ∧ q = none) := fun h => hp h.1
        rw [if_neg hne] at hsc
        clear hne hp
        cases cn : isDig s[k]
        · rw [cn] at hsc
          simp only [Bool.false_eq_true, if_false] at hsc
          have cd := isDig_no cn
          clear cn hqk
          clear hsc
          rcases cd with cd | cd
          · go_wp2
            go_ret2
            exact ⟨rfl, rfl⟩
          · have cd2 : ¬ (s[k].toNat : Int) < 48 := by omega
            go_wp2
            go_ret2
            exact ⟨rfl, rfl⟩
        · rw [cn] at hsc
          simp only [if_true] at hsc
          have HS := Lib.hid hsc
          obtain ⟨d1, d2⟩ := isDig_yes cn
          clear hsc cn
          have HQ := Lib.hid hqk
          clear hqk
          go_wp2
          go_round
          case rel => exact ⟨k + 1, q, by omega, rfl, by go_num, (fun j e => by have := HQ.out j e; omega), HS⟩
          case measure => simp [intOf]; omega
    · obtain rfl : k = s.size := by omega
      have hsc := HSC.out
      rw [List.drop_of_length_le (by simp)] at hsc
      simp only [scan] at hsc
      clear HSC
      exact absurd (hsc.trans HN.out) (by simp)

set_option maxHeartbeats 2000000 in
set_option maxRecDepth 100000 in
theorem rp_empty (s : ByteArray) (w : World) (h0 : s.size = 0) :
    Calls Tryd.prog 25 #[.string s] w fun e w' => e = .returned (.tuple #[.int .i64 0, .int .i64 5]) ∧ w = w' := by
  have a1 : ¬ (0 : Int) < s.size := by omega
  have te := toList_none s h0
  have h20 : ¬ (20 : Int) < s.size := by omega
  go_enter Tryd.func25, Tryd.ntmps25
  go_wp2
  refine wp_loop_rounds 1 ?_
  rw [rounds_succ]
  go_wp2
  go_ret2
  exact ⟨rfl, rfl⟩

/-- what stands behind the digits -/
def pEnd (b : Bool) (n : Int) (g s : Bool) : Int × Int := if (b && !s) = true then (0, 5) else if (g || decide (100000000000 < n)) = true then (0, 10) else (if b = true then -n else n, 0)

set_option maxHeartbeats 2000000 in
set_option maxRecDepth 100000 in
theorem rp_point_ts (s t : ByteArray) (w : World) (hs : s.size ≤ 4611686018427387904) (h0 : 0 < s.size) (h45 : s[0].toNat = 45) (ht : s.extract 1 s.size = t) (j : Nat) (hN : scan none 0 t.data.toList = some (some j)) (hj : (j : Int) ≠ (t.size : Int) - 3) :
    Calls Tryd.prog 25 #[.string s] w fun e w' => e = .returned (.tuple #[.int .i64 0, .int .i64 5]) ∧ w = w' := by
  have HC := Lib.hid (fun k hk => char_at (k := k) hN hk)
  have HN := Lib.hid hN
  clear hN
  have a1 : (0 : Int) < s.size := by omega
  have a2 : ((s[0].toNat : Int) == 45) = true := by rw [beq_iff_eq]; omega
  have a3 : (1 : Int) ≤ s.size := by omega
  have hts : t.size = s.size - 1 := by rw [← ht, ByteArray.size_extract]; omega
  have hsz : t.size ≤ 4611686018427387904 := by omega
  have j1 : ((j : Int) == (t.size : Int) - 3) = false := by rw [beq_eq_false_iff_ne]; exact hj
  have j2 : ((j : Int) != (t.size : Int) - 3) = true := by simp [bne, j1]
  clear hj
  go_enter Tryd.func25, Tryd.ntmps25
  go_wp2
  clear ht a1 a2 a3
  go_loop [5, 6] (fun p i => ∃ (k : Nat) (q : Option Nat), k ≤ t.size ∧ p = .int .i64 (pI q) ∧ i = .int .i64 k ∧ (∀ j, q = some j → j < k) ∧ Hid (scan q k (t.data.toList.drop k) = scan none 0 t.data.toList)) (fun _ i => t.size - (intOf i).toNat)
  case atStart => exact ⟨0, none, Nat.zero_le _, rfl, rfl, (fun j e => by cases e), Lib.hid (by simp)⟩
  case round =>
    obtain ⟨k, q, hk, rfl, rfl, hqk, HSC⟩ := hrel
    by_cases hlt : k < t.size
    · have hsc := HSC.out
      rw [drop_at t k hlt] at hsc
      simp only [scan] at hsc
      clear HSC
      by_cases hp : t[k].toNat = 46
      · have c46 : ((t[k].toNat : Int) == 46) = true := by rw [beq_iff_eq]; omega
        have cd : (t[k].toNat : Int) < 48 := by omega
        have cn : isDig t[k] = false := by simp [isDig]; omega
        cases q with
        | none =>
          rw [if_pos ⟨hp, rfl⟩] at hsc
          have HS := Lib.hid hsc
          clear hsc hp cd cn hqk
          simp only [pI]
          go_wp2
          go_round
          case rel => exact ⟨k + 1, some k, by omega, rfl, by go_num, (fun j e => by cases e; omega), HS⟩
          case measure => simp [intOf]; omega
        | some j =>
          have hne : ¬ (t[k].toNat = 46 ∧ some j = none) := by simp
          rw [if_neg hne, cn] at hsc
          simp only [Bool.false_eq_true, if_false] at hsc
          clear hne hp cn hqk
          exact absurd (hsc.trans HN.out) (by simp)
      · have c46 : ((t[k].toNat : Int) == 46) = false := by rw [beq_eq_false_iff_ne]; omega
        have hne : ¬ (t[k].toNat = 46 ∧ q = none) := fun h => hp h.1
        rw [if_neg hne] at hsc
        clear hne hp
        cases cn : isDig t[k]
        · rw [cn] at hsc
          simp only [Bool.false_eq_true, if_false] at hsc
          have cd := isDig_no cn
          clear cn hqk
          exact absurd (hsc.trans HN.out) (by simp)
        · rw [cn] at hsc
          simp only [if_true] at hsc
          have HS := Lib.hid hsc
          obtain ⟨d1, d2⟩ := isDig_yes cn
          clear hsc cn
          have HQ := Lib.hid hqk
          clear hqk
          go_wp2
          go_round
          case rel => exact ⟨k + 1, q, by omega, rfl, by go_num, (fun j e => by have := HQ.out j e; omega), HS⟩
          case measure => simp [intOf]; omega
    · obtain rfl : k = t.size := by omega
      have hsc := HSC.out
      rw [List.drop_of_length_le (by simp)] at hsc
      simp only [scan] at hsc
      clear HSC
      obtain rfl : q = some j := Option.some.inj (hsc.trans HN.out)
      clear hsc hqk
      simp only [pI]
      go_wp2
      go_ret2
      exact ⟨rfl, rfl⟩

set_option maxHeartbeats 2000000 in
set_option maxRecDepth 100000 in
theorem rp_long_ts (s t : ByteArray) (w : World) (hs : s.size ≤ 4611686018427387904) (h0 : 0 < s.size) (h45 : s[0].toNat = 45) (ht : s.extract 1 s.size = t) (j : Nat) (hN : scan none 0 t.data.toList = some (some j)) (hj : (j : Int) = (t.size : Int) - 3) (h20 : (20 : Int) < t.size) :
    Calls Tryd.prog 25 #[.string s] w fun e w' => e = .returned (.tuple #[.int .i64 0, .int .i64 5]) ∧ w = w' := by
  have HC := Lib.hid (fun k hk => char_at (k := k) hN hk)
  have HN := Lib.hid hN
  clear hN
  have a1 : (0 : Int) < s.size := by omega
  have a2 : ((s[0].toNat : Int) == 45) = true := by rw [beq_iff_eq]; omega
  have a3 : (1 : Int) ≤ s.size := by omega
  have hts : t.size = s.size - 1 := by rw [← ht, ByteArray.size_extract]; omega
  have hsz : t.size ≤ 4611686018427387904 := by omega
  have j1 : ((j : Int) == (t.size : Int) - 3) = true := by rw [beq_iff_eq]; exact hj
  have j2 : ((j : Int) != (t.size : Int) - 3) = false := by simp [bne, j1]
  have j3 : (j : Int) ≤ t.size := by omega
  have HJ := Lib.hid hj
  clear hj
  go_enter Tryd.func25, Tryd.ntmps25
  go_wp2
  clear ht a1 a2 a3
  go_loop [5, 6] (fun p i => ∃ (k : Nat) (q : Option Nat), k ≤ t.size ∧ p = .int .i64 (pI q) ∧ i = .int .i64 k ∧ (∀ j, q = some j → j < k) ∧ Hid (scan q k (t.data.toList.drop k) = scan none 0 t.data.toList)) (fun _ i => t.size - (intOf i).toNat)
  case atStart => exact ⟨0, none, Nat.zero_le _, rfl, rfl, (fun j e => by cases e), Lib.hid (by simp)⟩
  case round =>
    obtain ⟨k, q, hk, rfl, rfl, hqk, HSC⟩ := hrel
    by_cases hlt : k < t.size
    · have hsc := HSC.out
      rw [drop_at t k hlt] at hsc
      simp only [scan] at hsc
      clear HSC
      by_cases hp : t[k].toNat = 46
      · have c46 : ((t[k].toNat : Int) == 46) = true := by rw [beq_iff_eq]; omega
        have cd : (t[k].toNat : Int) < 48 := by omega
        have cn : isDig t[k] = false := by simp [isDig]; omega
        cases q with
        | none =>
          rw [if_pos ⟨hp, rfl⟩] at hsc
          have HS := Lib.hid hsc
          clear hsc hp cd cn hqk
          simp only [pI]
          go_wp2
          go_round
          case rel => exact ⟨k + 1, some k, by omega, rfl, by go_num, (fun j e => by cases e; omega), HS⟩
          case measure => simp [intOf]; omega
        | some j =>
          have hne : ¬ (t[k].toNat = 46 ∧ some j = none) := by simp
          rw [if_neg hne, cn] at hsc
          simp only [Bool.false_eq_true, if_false] at hsc
          clear hne hp cn hqk
          exact absurd (hsc.trans HN.out) (by simp)
      · have c46 : ((t[k].toNat : Int) == 46) = false := by rw [beq_eq_false_iff_ne]; omega
        have hne : ¬ (t[k].toNat = 46 ∧ q = none) := fun h => hp h.1
        rw [if_neg hne] at hsc
        clear hne hp
        cases cn : isDig t[k]
        · rw [cn] at hsc
          simp only [Bool.false_eq_true, if_false] at hsc
          have cd := isDig_no cn
          clear cn hqk
          exact absurd (hsc.trans HN.out) (by simp)
        · rw [cn] at hsc
          simp only [if_true] at hsc
          have HS := Lib.hid hsc
          obtain ⟨d1, d2⟩ := isDig_yes cn
          clear hsc cn
          have HQ := Lib.hid hqk
          clear hqk
          go_wp2
          go_round
          case rel => exact ⟨k + 1, q, by omega, rfl, by go_num, (fun j e => by have := HQ.out j e; omega), HS⟩
          case measure => simp [intOf]; omega
    · obtain rfl : k = t.size := by omega
      have hsc := HSC.out
      rw [List.drop_of_length_le (by simp)] at hsc
      simp only [scan] at hsc
      clear HSC
      obtain rfl : q = some j := Option.some.inj (hsc.trans HN.out)
      clear hsc hqk
      simp only [pI]
      go_wp2
      go_ret2
      exact ⟨rfl, rfl⟩

set_option maxHeartbeats 2000000 in
set_option maxRecDepth 100000 in
theorem rp_bare_ts (s t : ByteArray) (w : World) (hs : s.size ≤ 4611686018427387904) (h0 : 0 < s.size) (h45 : s[0].toNat = 45) (ht : s.extract 1 s.size = t) (j : Nat) (hN : scan none 0 t.data.toList = some (some j)) (hj : (j : Int) = (t.size : Int) - 3) (F : ByteArray) (hF : t.extract 0 j = F) (h20 : ¬ (20 : Int) < t.size) (h1 : F.size = 0) :
    Calls Tryd.prog 25 #[.string s] w fun e w' => e = .returned (.tuple #[.int .i64 0, .int .i64 5]) ∧ w = w' := by
  have HC := Lib.hid (fun k hk => char_at (k := k) hN hk)
  have HN := Lib.hid hN
  clear hN
  have a1 : (0 : Int) < s.size := by omega
  have a2 : ((s[0].toNat : Int) == 45) = true := by rw [beq_iff_eq]; omega
  have a3 : (1 : Int) ≤ s.size := by omega
  have hts : t.size = s.size - 1 := by rw [← ht, ByteArray.size_extract]; omega
  have hsz : t.size ≤ 4611686018427387904 := by omega
  have j1 : ((j : Int) == (t.size : Int) - 3) = true := by rw [beq_iff_eq]; exact hj
  have j2 : ((j : Int) != (t.size : Int) - 3) = false := by simp [bne, j1]
  have j3 : (j : Int) ≤ t.size := by omega
  have hFs : F.size = j := by rw [← hF, ByteArray.size_extract]; omega
  have HFS := Lib.hid hFs
  have HJ := Lib.hid hj
  clear hFs hj
  have te := toList_none F h1
  go_enter Tryd.func25, Tryd.ntmps25
  go_wp2
  clear ht a1 a2 a3
  go_loop [5, 6] (fun p i => ∃ (k : Nat) (q : Option Nat), k ≤ t.size ∧ p = .int .i64 (pI q) ∧ i = .int .i64 k ∧ (∀ j, q = some j → j < k) ∧ Hid (scan q k (t.data.toList.drop k) = scan none 0 t.data.toList)) (fun _ i => t.size - (intOf i).toNat)
  case atStart => exact ⟨0, none, Nat.zero_le _, rfl, rfl, (fun j e => by cases e), Lib.hid (by simp)⟩
  case round =>
    obtain ⟨k, q, hk, rfl, rfl, hqk, HSC⟩ := hrel
    by_cases hlt : k < t.size
    · have hsc := HSC.out
      rw [drop_at t k hlt] at hsc
      simp only [scan] at hsc
      clear HSC
      by_cases hp : t[k].toNat = 46
      · have c46 : ((t[k].toNat : Int) == 46) = true := by rw [beq_iff_eq]; omega
        have cd : (t[k].toNat : Int) < 48 := by omega
        have cn : isDig t[k] = false := by simp [isDig]; omega
        cases q with
        | none =>
          rw [if_pos ⟨hp, rfl⟩] at hsc
          have HS := Lib.hid hsc
          clear hsc hp cd cn hqk
          simp only [pI]
          go_wp2
          go_round
          case rel => exact ⟨k + 1, some k, by omega, rfl, by go_num, (fun j e => by cases e; omega), HS⟩
          case measure => simp [intOf]; omega
        | some j =>
          have hne : ¬ (t[k].toNat = 46 ∧ some j = none) := by simp
          rw [if_neg hne, cn] at hsc
          simp only [Bool.false_eq_true, if_false] at hsc
          clear hne hp cn hqk
          exact absurd (hsc.trans HN.out) (by simp)
      · have c46 : ((t[k].toNat : Int) == 46) = false := by rw [beq_eq_false_iff_ne]; omega
        have hne : ¬ (t[k].toNat = 46 ∧ q = none) := fun h => hp h.1
        rw [if_neg hne] at hsc
        clear hne hp
        cases cn : isDig t[k]
        · rw [cn] at hsc
          simp only [Bool.false_eq_true, if_false] at hsc
          have cd := isDig_no cn
          clear cn hqk
          exact absurd (hsc.trans HN.out) (by simp)
        · rw [cn] at hsc
          simp only [if_true] at hsc
          have HS := Lib.hid hsc
          obtain ⟨d1, d2⟩ := isDig_yes cn
          clear hsc cn
          have HQ := Lib.hid hqk
          clear hqk
          go_wp2
          go_round
          case rel => exact ⟨k + 1, q, by omega, rfl, by go_num, (fun j e => by have := HQ.out j e; omega), HS⟩
          case measure => simp [intOf]; omega
    · obtain rfl : k = t.size := by omega
      have hsc := HSC.out
      rw [List.drop_of_length_le (by simp)] at hsc
      simp only [scan] at hsc
      clear HSC
      obtain rfl : q = some j := Option.some.inj (hsc.trans HN.out)
      clear hsc hqk
      simp only [pI]
      go_wp2
      go_ret2
      exact ⟨rfl, rfl⟩

set_option maxHeartbeats 2000000 in
set_option maxRecDepth 100000 in
theorem rp_lead_ts (s t : ByteArray) (w : World) (hs : s.size ≤ 4611686018427387904) (h0 : 0 < s.size) (h45 : s[0].toNat = 45) (ht : s.extract 1 s.size = t) (j : Nat) (hN : scan none 0 t.data.toList = some (some j)) (hj : (j : Int) = (t.size : Int) - 3) (F : ByteArray) (hF : t.extract 0 j = F) (h20 : ¬ (20 : Int) < t.size) (h1 : 1 < F.size) (h48 : F[0].toNat = 48) :
    Calls Tryd.prog 25 #[.string s] w fun e w' => e = .returned (.tuple #[.int .i64 0, .int .i64 5]) ∧ w = w' := by
  have HC := Lib.hid (fun k hk => char_at (k := k) hN hk)
  have HN := Lib.hid hN
  clear hN
  have a1 : (0 : Int) < s.size := by omega
  have a2 : ((s[0].toNat : Int) == 45) = true := by rw [beq_iff_eq]; omega
  have a3 : (1 : Int) ≤ s.size := by omega
  have hts : t.size = s.size - 1 := by rw [← ht, ByteArray.size_extract]; omega
  have hsz : t.size ≤ 4611686018427387904 := by omega
  have j1 : ((j : Int) == (t.size : Int) - 3) = true := by rw [beq_iff_eq]; exact hj
  have j2 : ((j : Int) != (t.size : Int) - 3) = false := by simp [bne, j1]
  have j3 : (j : Int) ≤ t.size := by omega
  have hFs : F.size = j := by rw [← hF, ByteArray.size_extract]; omega
  have HFS := Lib.hid hFs
  have HJ := Lib.hid hj
  clear hFs hj
  have te := toList_some F (by omega)
  have g1 : (1 : Int) < F.size := by omega
  have g2 : ((F[0].toNat : Int) == 48) = true := by rw [beq_iff_eq]; omega
  go_enter Tryd.func25, Tryd.ntmps25
  go_wp2
  clear ht a1 a2 a3
  go_loop [5, 6] (fun p i => ∃ (k : Nat) (q : Option Nat), k ≤ t.size ∧ p = .int .i64 (pI q) ∧ i = .int .i64 k ∧ (∀ j, q = some j → j < k) ∧ Hid (scan q k (t.data.toList.drop k) = scan none 0 t.data.toList)) (fun _ i => t.size - (intOf i).toNat)
  case atStart => exact ⟨0, none, Nat.zero_le _, rfl, rfl, (fun j e => by cases e), Lib.hid (by simp)⟩
  case round =>
    obtain ⟨k, q, hk, rfl, rfl, hqk, HSC⟩ := hrel
    by_cases hlt : k < t.size
    · have hsc := HSC.out
      rw [drop_at t k hlt] at hsc
      simp only [scan] at hsc
      clear HSC
      by_cases hp : t[k].toNat = 46
      · have c46 : ((t[k].toNat : Int) == 46) = true := by rw [beq_iff_eq]; omega
        have cd : (t[k].toNat : Int) < 48 := by omega
        have cn : isDig t[k] = false := by simp [isDig]; omega
        cases q with
        | none =>
          rw [if_pos ⟨hp, rfl⟩] at hsc
          have HS := Lib.hid hsc
          clear hsc hp cd cn hqk
          simp only [pI]
          go_wp2
          go_round
          case rel => exact ⟨k + 1, some k, by omega, rfl, by go_num, (fun j e => by cases e; omega), HS⟩
          case measure => simp [intOf]; omega
        | some j =>
          have hne : ¬ (t[k].toNat = 46 ∧ some j = none) := by simp
          rw [if_neg hne, cn] at hsc
          simp only [Bool.false_eq_true, if_false] at hsc
          clear hne hp cn hqk
          exact absurd (hsc.trans HN.out) (by simp)
      · have c46 : ((t[k].toNat : Int) == 46) = false := by rw [beq_eq_false_iff_ne]; omega
        have hne : ¬ (t[k].toNat = 46 ∧ q = none) := fun h => hp h.1
        rw [if_neg hne] at hsc
        clear hne hp
        cases cn : isDig t[k]
        · rw [cn] at hsc
          simp only [Bool.false_eq_true, if_false] at hsc
          have cd := isDig_no cn
          clear cn hqk
          exact absurd (hsc.trans HN.out) (by simp)
        · rw [cn] at hsc
          simp only [if_true] at hsc
          have HS := Lib.hid hsc
          obtain ⟨d1, d2⟩ := isDig_yes cn
          clear hsc cn
          have HQ := Lib.hid hqk
          clear hqk
          go_wp2
          go_round
          case rel => exact ⟨k + 1, q, by omega, rfl, by go_num, (fun j e => by have := HQ.out j e; omega), HS⟩
          case measure => simp [intOf]; omega
    · obtain rfl : k = t.size := by omega
      have hsc := HSC.out
      rw [List.drop_of_length_le (by simp)] at hsc
      simp only [scan] at hsc
      clear HSC
      obtain rfl : q = some j := Option.some.inj (hsc.trans HN.out)
      clear hsc hqk
      simp only [pI]
      go_wp2
      go_ret2
      exact ⟨rfl, rfl⟩

set_option maxHeartbeats 2000000 in
set_option maxRecDepth 100000 in
theorem rp_long_tn (s t : ByteArray) (w : World) (hs : s.size ≤ 4611686018427387904) (h0 : 0 < s.size) (h45 : s[0].toNat = 45) (ht : s.extract 1 s.size = t) (hN : scan none 0 t.data.toList = some none) (h20 : (20 : Int) < t.size) :
    Calls Tryd.prog 25 #[.string s] w fun e w' => e = .returned (.tuple #[.int .i64 0, .int .i64 5]) ∧ w = w' := by
  have HC := Lib.hid (fun k hk => char_at (k := k) hN hk)
  have HN := Lib.hid hN
  clear hN
  have a1 : (0 : Int) < s.size := by omega
  have a2 : ((s[0].toNat : Int) == 45) = true := by rw [beq_iff_eq]; omega
  have a3 : (1 : Int) ≤ s.size := by omega
  have hts : t.size = s.size - 1 := by rw [← ht, ByteArray.size_extract]; omega
  have hsz : t.size ≤ 4611686018427387904 := by omega
  go_enter Tryd.func25, Tryd.ntmps25
  go_wp2
  clear ht a1 a2 a3
  go_loop [5, 6] (fun p i => ∃ (k : Nat) (q : Option Nat), k ≤ t.size ∧ p = .int .i64 (pI q) ∧ i = .int .i64 k ∧ (∀ j, q = some j → j < k) ∧ Hid (scan q k (t.data.toList.drop k) = scan none 0 t.data.toList)) (fun _ i => t.size - (intOf i).toNat)
  case atStart => exact ⟨0, none, Nat.zero_le _, rfl, rfl, (fun j e => by cases e), Lib.hid (by simp)⟩
  case round =>
    obtain ⟨k, q, hk, rfl, rfl, hqk, HSC⟩ := hrel
    by_cases hlt : k < t.size
    · have hsc := HSC.out
      rw [drop_at t k hlt] at hsc
      simp only [scan] at hsc
      clear HSC
      by_cases hp : t[k].toNat = 46
      · have c46 : ((t[k].toNat : Int) == 46) = true := by rw [beq_iff_eq]; omega
        have cd : (t[k].toNat : Int) < 48 := by omega
        have cn : isDig t[k] = false := by simp [isDig]; omega
        cases q with
        | none =>
          rw [if_pos ⟨hp, rfl⟩] at hsc
          have HS := Lib.hid hsc
          clear hsc hp cd cn hqk
          simp only [pI]
          go_wp2
          go_round
          case rel => exact ⟨k + 1, some k, by omega, rfl, by go_num, (fun j e => by cases e; omega), HS⟩
          case measure => simp [intOf]; omega
        | some j =>
          have hne : ¬ (t[k].toNat = 46 ∧ some j = none) := by simp
          rw [if_neg hne, cn] at hsc
          simp only [Bool.false_eq_true, if_false] at hsc
          clear hne hp cn hqk
          exact absurd (hsc.trans HN.out) (by simp)
      · have c46 : ((t[k].toNat : Int) == 46) = false := by rw [beq_eq_false_iff_ne]; omega
        have hne : ¬ (t[k].toNat = 46 ∧ q = none) := fun h => hp h.1
        rw [if_neg hne] at hsc
        clear hne hp
        cases cn : isDig t[k]
        · rw [cn] at hsc
          simp only [Bool.false_eq_true, if_false] at hsc
          have cd := isDig_no cn
          clear cn hqk
          exact absurd (hsc.trans HN.out) (by simp)
        · rw [cn] at hsc
          simp only [if_true] at hsc
          have HS := Lib.hid hsc
          obtain ⟨d1, d2⟩ := isDig_yes cn
          clear hsc cn
          have HQ := Lib.hid hqk
          clear hqk
          go_wp2
          go_round
          case rel => exact ⟨k + 1, q, by omega, rfl, by go_num, (fun j e => by have := HQ.out j e; omega), HS⟩
          case measure => simp [intOf]; omega
    · obtain rfl : k = t.size := by omega
      have hsc := HSC.out
      rw [List.drop_of_length_le (by simp)] at hsc
      simp only [scan] at hsc
      clear HSC
      obtain rfl : q = none := Option.some.inj (hsc.trans HN.out)
      clear hsc hqk
      simp only [pI]
      go_wp2
      go_ret2
      exact ⟨rfl, rfl⟩

set_option maxHeartbeats 2000000 in
set_option maxRecDepth 100000 in
theorem rp_bare_tn (s t : ByteArray) (w : World) (hs : s.size ≤ 4611686018427387904) (h0 : 0 < s.size) (h45 : s[0].toNat = 45) (ht : s.extract 1 s.size = t) (hN : scan none 0 t.data.toList = some none) (h20 : ¬ (20 : Int) < t.size) (h1 : t.size = 0) :
    Calls Tryd.prog 25 #[.string s] w fun e w' => e = .returned (.tuple #[.int .i64 0, .int .i64 5]) ∧ w = w' := by
  clear hN
  have a1 : (0 : Int) < s.size := by omega
  have a2 : ((s[0].toNat : Int) == 45) = true := by rw [beq_iff_eq]; omega
  have a3 : (1 : Int) ≤ s.size := by omega
  have hts : t.size = s.size - 1 := by rw [← ht, ByteArray.size_extract]; omega
  have hsz : t.size ≤ 4611686018427387904 := by omega
  have te := toList_none t h1
  go_enter Tryd.func25, Tryd.ntmps25
  go_wp2
  refine wp_loop_rounds 1 ?_
  rw [rounds_succ]
  go_wp2
  go_ret2
  exact ⟨rfl, rfl⟩

set_option maxHeartbeats 2000000 in
set_option maxRecDepth 100000 in
theorem rp_lead_tn (s t : ByteArray) (w : World) (hs : s.size ≤ 4611686018427387904) (h0 : 0 < s.size) (h45 : s[0].toNat = 45) (ht : s.extract 1 s.size = t) (hN : scan none 0 t.data.toList = some none) (h20 : ¬ (20 : Int) < t.size) (h1 : 1 < t.size) (h48 : t[0].toNat = 48) :
    Calls Tryd.prog 25 #[.string s] w fun e w' => e = .returned (.tuple #[.int .i64 0, .int .i64 5]) ∧ w = w' := by
  have HC := Lib.hid (fun k hk => char_at (k := k) hN hk)
  have HN := Lib.hid hN
  clear hN
  have a1 : (0 : Int) < s.size := by omega
  have a2 : ((s[0].toNat : Int) == 45) = true := by rw [beq_iff_eq]; omega
  have a3 : (1 : Int) ≤ s.size := by omega
  have hts : t.size = s.size - 1 := by rw [← ht, ByteArray.size_extract]; omega
  have hsz : t.size ≤ 4611686018427387904 := by omega
  have te := toList_some t (by omega)
  have g1 : (1 : Int) < t.size := by omega
  have g2 : ((t[0].toNat : Int) == 48) = true := by rw [beq_iff_eq]; omega
  go_enter Tryd.func25, Tryd.ntmps25
  go_wp2
  clear ht a1 a2 a3
  go_loop [5, 6] (fun p i => ∃ (k : Nat) (q : Option Nat), k ≤ t.size ∧ p = .int .i64 (pI q) ∧ i = .int .i64 k ∧ (∀ j, q = some j → j < k) ∧ Hid (scan q k (t.data.toList.drop k) = scan none 0 t.data.toList)) (fun _ i => t.size - (intOf i).toNat)
  case atStart => exact ⟨0, none, Nat.zero_le _, rfl, rfl, (fun j e => by cases e), Lib.hid (by simp)⟩
  case round =>
    obtain ⟨k, q, hk, rfl, rfl, hqk, HSC⟩ := hrel
    by_cases hlt : k < t.size
    · have hsc := HSC.out
      rw [drop_at t k hlt] at hsc
      simp only [scan] at hsc
      clear HSC
      by_cases hp : t[k].toNat = 46
      · have c46 : ((t[k].toNat : Int) == 46) = true := by rw [beq_iff_eq]; omega
        have cd : (t[k].toNat : Int) < 48 := by omega
        have cn : isDig t[k] = false := by simp [isDig]; omega
        cases q with
        | none =>
          rw [if_pos ⟨hp, rfl⟩] at hsc
          have HS := Lib.hid hsc
          clear hsc hp cd cn hqk
          simp only [pI]
          go_wp2
          go_round
          case rel => exact ⟨k + 1, some k, by omega, rfl, by go_num, (fun j e => by cases e; omega), HS⟩
          case measure => simp [intOf]; omega
        | some j =>
          have hne : ¬ (t[k].toNat = 46 ∧ some j = none) := by simp
          rw [if_neg hne, cn] at hsc
          simp only [Bool.false_eq_true, if_false] at hsc
          clear hne hp cn hqk
          exact absurd (hsc.trans HN.out) (by simp)
      · have c46 : ((t[k].toNat : Int) == 46) = false := by rw [beq_eq_false_iff_ne]; omega
        have hne : ¬ (t[k].toNat = 46 ∧ q = none) := fun h => hp h.1
        rw [if_neg hne] at hsc
        clear hne hp
        cases cn : isDig t[k]
        · rw [cn] at hsc
          simp only [Bool.false_eq_true, if_false] at hsc
          have cd := isDig_no cn
          clear cn hqk
          exact absurd (hsc.trans HN.out) (by simp)
        · rw [cn] at hsc
          simp only [if_true] at hsc
          have HS := Lib.hid hsc
          obtain ⟨d1, d2⟩ := isDig_yes cn
          clear hsc cn
          have HQ := Lib.hid hqk
          clear hqk
          go_wp2
          go_round
          case rel => exact ⟨k + 1, q, by omega, rfl, by go_num, (fun j e => by have := HQ.out j e; omega), HS⟩
          case measure => simp [intOf]; omega
    · obtain rfl : k = t.size := by omega
      have hsc := HSC.out
      rw [List.drop_of_length_le (by simp)] at hsc
      simp only [scan] at hsc
      clear HSC
      obtain rfl : q = none := Option.some.inj (hsc.trans HN.out)
      clear hsc hqk
      simp only [pI]
      go_wp2
      go_ret2
      exact ⟨rfl, rfl⟩

set_option maxHeartbeats 2000000 in
set_option maxRecDepth 100000 in
theorem rp_point_fs (s : ByteArray) (w : World) (hs : s.size ≤ 4611686018427387904) (h0 : 0 < s.size) (h45 : s[0].toNat ≠ 45) (j : Nat) (hN : scan none 0 s.data.toList = some (some j)) (hj : (j : Int) ≠ (s.size : Int) - 3) :
    Calls Tryd.prog 25 #[.string s] w fun e w' => e = .returned (.tuple #[.int .i64 0, .int .i64 5]) ∧ w = w' := by
  have HC := Lib.hid (fun k hk => char_at (k := k) hN hk)
  have HN := Lib.hid hN
  clear hN
  have a1 : (0 : Int) < s.size := by omega
  have a2 : ((s[0].toNat : Int) == 45) = false := by rw [beq_eq_false_iff_ne]; omega
  have j1 : ((j : Int) == (s.size : Int) - 3) = false := by rw [beq_eq_false_iff_ne]; exact hj
  have j2 : ((j : Int) != (s.size : Int) - 3) = true := by simp [bne, j1]
  clear hj
  go_enter Tryd.func25, Tryd.ntmps25
  go_wp2
  go_loop [5, 6] (fun p i => ∃ (k : Nat) (q : Option Nat), k ≤ s.size ∧ p = .int .i64 (pI q) ∧ i = .int .i64 k ∧ (∀ j, q = some j → j < k) ∧ Hid (scan q k (s.data.toList.drop k) = scan none 0 s.data.toList)) (fun _ i => s.size - (intOf i).toNat)
  case atStart => exact ⟨0, none, Nat.zero_le _, rfl, rfl, (fun j e => by cases e), Lib.hid (by simp)⟩
  case round =>
    obtain ⟨k, q, hk, rfl, rfl, hqk, HSC⟩ := hrel
    by_cases hlt : k < s.size
    · have hsc := HSC.out
      rw [drop_at s k hlt] at hsc
      simp only [scan] at hsc
      clear HSC
      by_cases hp : s[k].toNat = 46
      · have c46 : ((s[k].toNat : Int) == 46) = true := by rw [beq_iff_eq]; omega
        have cd : (s[k].toNat : Int) < 48 := by omega
        have cn : isDig s[k] = false := by simp [isDig]; omega
        cases q with
        | none =>
          rw [if_pos ⟨hp, rfl⟩] at hsc
          have HS := Lib.hid hsc
          clear hsc hp cd cn hqk
          simp only [pI]
          go_wp2
          go_round
          case rel => exact ⟨k + 1, some k, by omega, rfl, by go_num, (fun j e => by cases e; omega), HS⟩
          case measure => simp [intOf]; omega
        | some j =>
          have hne : ¬ (s[k].toNat = 46 ∧ some j = none) := by simp
          rw [if_neg hne, cn] at hsc
          simp only [Bool.false_eq_true, if_false] at hsc
          clear hne hp cn hqk
          exact absurd (hsc.trans HN.out) (by simp)
      · have c46 : ((s[k].toNat : Int) == 46) = false := by rw [beq_eq_false_iff_ne]; omega
        have hne : ¬ (s[k].toNat = 46 ∧ q = none) := fun h => hp h.1
        rw [if_neg hne] at hsc
        clear hne hp
        cases cn : isDig s[k]
        · rw [cn] at hsc
          simp only [Bool.false_eq_true, if_false] at hsc
          have cd := isDig_no cn
          clear cn hqk
          exact absurd (hsc.trans HN.out) (by simp)
        · rw [cn] at hsc
          simp only [if_true] at hsc
          have HS := Lib.hid hsc
          obtain ⟨d1, d2⟩ := isDig_yes cn
          clear hsc cn
          have HQ := Lib.hid hqk
          clear hqk
          go_wp2
          go_round
          case rel => exact ⟨k + 1, q, by omega, rfl, by go_num, (fun j e => by have := HQ.out j e; omega), HS⟩
          case measure => simp [intOf]; omega
    · obtain rfl : k = s.size := by omega
      have hsc := HSC.out
      rw [List.drop_of_length_le (by simp)] at hsc
      simp only [scan] at hsc
      clear HSC
      obtain rfl : q = some j := Option.some.inj (hsc.trans HN.out)
      clear hsc hqk
      simp only [pI]
      go_wp2
      go_ret2
      exact ⟨rfl, rfl⟩

set_option maxHeartbeats 2000000 in
set_option maxRecDepth 100000 in
theorem rp_long_fs (s : ByteArray) (w : World) (hs : s.size ≤ 4611686018427387904) (h0 : 0 < s.size) (h45 : s[0].toNat ≠ 45) (j : Nat) (hN : scan none 0 s.data.toList = some (some j)) (hj : (j : Int) = (s.size : Int) - 3) (h20 : (20 : Int) < s.size) :
    Calls Tryd.prog 25 #[.string s] w fun e w' => e = .returned (.tuple #[.int .i64 0, .int .i64 5]) ∧ w = w' := by
  have HC := Lib.hid (fun k hk => char_at (k := k) hN hk)
  have HN := Lib.hid hN
  clear hN
  have a1 : (0 : Int) < s.size := by omega
  have a2 : ((s[0].toNat : Int) == 45) = false := by rw [beq_eq_false_iff_ne]; omega
  have j1 : ((j : Int) == (s.size : Int) - 3) = true := by rw [beq_iff_eq]; exact hj
  have j2 : ((j : Int) != (s.size : Int) - 3) = false := by simp [bne, j1]
  have j3 : (j : Int) ≤ s.size := by omega
  have HJ := Lib.hid hj
  clear hj
  go_enter Tryd.func25, Tryd.ntmps25
  go_wp2
  go_loop [5, 6] (fun p i => ∃ (k : Nat) (q : Option Nat), k ≤ s.size ∧ p = .int .i64 (pI q) ∧ i = .int .i64 k ∧ (∀ j, q = some j → j < k) ∧ Hid (scan q k (s.data.toList.drop k) = scan none 0 s.data.toList)) (fun _ i => s.size - (intOf i).toNat)
  case atStart => exact ⟨0, none, Nat.zero_le _, rfl, rfl, (fun j e => by cases e), Lib.hid (by simp)⟩
  case round =>
    obtain ⟨k, q, hk, rfl, rfl, hqk, HSC⟩ := hrel
    by_cases hlt : k < s.size
    · have hsc := HSC.out
      rw [drop_at s k hlt] at hsc
      simp only [scan] at hsc
      clear HSC
      by_cases hp : s[k].toNat = 46
      · have c46 : ((s[k].toNat : Int) == 46) = true := by rw [beq_iff_eq]; omega
        have cd : (s[k].toNat : Int) < 48 := by omega
        have cn : isDig s[k] = false := by simp [isDig]; omega
        cases q with
        | none =>
          rw [if_pos ⟨hp, rfl⟩] at hsc
          have HS := Lib.hid hsc
          clear hsc hp cd cn hqk
          simp only [pI]
          go_wp2
          go_round
          case rel => exact ⟨k + 1, some k, by omega, rfl, by go_num, (fun j e => by cases e; omega), HS⟩
          case measure => simp [intOf]; omega
        | some j =>
          have hne : ¬ (s[k].toNat = 46 ∧ some j = none) := by simp
          rw [if_neg hne, cn] at hsc
          simp only [Bool.false_eq_true, if_false] at hsc
          clear hne hp cn hqk
          exact absurd (hsc.trans HN.out) (by simp)
      · have c46 : ((s[k].toNat : Int) == 46) = false := by rw [beq_eq_false_iff_ne]; omega
        have hne : ¬ (s[k].toNat = 46 ∧ q = none) := fun h => hp h.1
        rw [if_neg hne] at hsc
        clear hne hp
        cases cn : isDig s[k]
        · rw [cn] at hsc
          simp only [Bool.false_eq_true, if_false] at hsc
          have cd := isDig_no cn
          clear cn hqk
          exact absurd (hsc.trans HN.out) (by simp)
        · rw [cn] at hsc
          simp only [if_true] at hsc
          have HS := Lib.hid hsc
          obtain ⟨d1, d2⟩ := isDig_yes cn
          clear hsc cn
          have HQ := Lib.hid hqk
          clear hqk
          go_wp2
          go_round
          case rel => exact ⟨k + 1, q, by omega, rfl, by go_num, (fun j e => by have := HQ.out j e; omega), HS⟩
          case measure => simp [intOf]; omega
    · obtain rfl : k = s.size := by omega
      have hsc := HSC.out
      rw [List.drop_of_length_le (by simp)] at hsc
      simp only [scan] at hsc
      clear HSC
      obtain rfl : q = some j := Option.some.inj (hsc.trans HN.out)
      clear hsc hqk
      simp only [pI]
      go_wp2
      go_ret2
      exact ⟨rfl, rfl⟩

set_option maxHeartbeats 2000000 in
set_option maxRecDepth 100000 in
theorem rp_bare_fs (s : ByteArray) (w : World) (hs : s.size ≤ 4611686018427387904) (h0 : 0 < s.size) (h45 : s[0].toNat ≠ 45) (j : Nat) (hN : scan none 0 s.data.toList = some (some j)) (hj : (j : Int) = (s.size : Int) - 3) (F : ByteArray) (hF : s.extract 0 j = F) (h20 : ¬ (20 : Int) < s.size) (h1 : F.size = 0) :
    Calls Tryd.prog 25 #[.string s] w fun e w' => e = .returned (.tuple #[.int .i64 0, .int .i64 5]) ∧ w = w' := by
  have HC := Lib.hid (fun k hk => char_at (k := k) hN hk)
  have HN := Lib.hid hN
  clear hN
  have a1 : (0 : Int) < s.size := by omega
  have a2 : ((s[0].toNat : Int) == 45) = false := by rw [beq_eq_false_iff_ne]; omega
  have j1 : ((j : Int) == (s.size : Int) - 3) = true := by rw [beq_iff_eq]; exact hj
  have j2 : ((j : Int) != (s.size : Int) - 3) = false := by simp [bne, j1]
  have j3 : (j : Int) ≤ s.size := by omega
  have hFs : F.size = j := by rw [← hF, ByteArray.size_extract]; omega
  have HFS := Lib.hid hFs
  have HJ := Lib.hid hj
  clear hFs hj
  have te := toList_none F h1
  go_enter Tryd.func25, Tryd.ntmps25
  go_wp2
  go_loop [5, 6] (fun p i => ∃ (k : Nat) (q : Option Nat), k ≤ s.size ∧ p = .int .i64 (pI q) ∧ i = .int .i64 k ∧ (∀ j, q = some j → j < k) ∧ Hid (scan q k (s.data.toList.drop k) = scan none 0 s.data.toList)) (fun _ i => s.size - (intOf i).toNat)
  case atStart => exact ⟨0, none, Nat.zero_le _, rfl, rfl, (fun j e => by cases e), Lib.hid (by simp)⟩
  case round =>
    obtain ⟨k, q, hk, rfl, rfl, hqk, HSC⟩ := hrel
    by_cases hlt : k < s.size
    · have hsc := HSC.out
      rw [drop_at s k hlt] at hsc
      simp only [scan] at hsc
      clear HSC
      by_cases hp : s[k].toNat = 46
      · have c46 : ((s[k].toNat : Int) == 46) = true := by rw [beq_iff_eq]; omega
        have cd : (s[k].toNat : Int) < 48 := by omega
        have cn : isDig s[k] = false := by simp [isDig]; omega
        cases q with
        | none =>
          rw [if_pos ⟨hp, rfl⟩] at hsc
          have HS := Lib.hid hsc
          clear hsc hp cd cn hqk
          simp only [pI]
          go_wp2
          go_round
          case rel => exact ⟨k + 1, some k, by omega, rfl, by go_num, (fun j e => by cases e; omega), HS⟩
          case measure => simp [intOf]; omega
        | some j =>
          have hne : ¬ (s[k].toNat = 46 ∧ some j = none) := by simp
          rw [if_neg hne, cn] at hsc
          simp only [Bool.false_eq_true, if_false] at hsc
          clear hne hp cn hqk
          exact absurd (hsc.trans HN.out) (by simp)
      · have c46 : ((s[k].toNat : Int) == 46) = false := by rw [beq_eq_false_iff_ne]; omega
        have hne : ¬ (s[k].toNat = 46 ∧ q = none) := fun h => hp h.1
        rw [if_neg hne] at hsc
        clear hne hp
        cases cn : isDig s[k]
        · rw [cn] at hsc
          simp only [Bool.false_eq_true, if_false] at hsc
          have cd := isDig_no cn
          clear cn hqk
          exact absurd (hsc.trans HN.out) (by simp)
        · rw [cn] at hsc
          simp only [if_true] at hsc
          have HS := Lib.hid hsc
          obtain ⟨d1, d2⟩ := isDig_yes cn
          clear hsc cn
          have HQ := Lib.hid hqk
          clear hqk
          go_wp2
          go_round
          case rel => exact ⟨k + 1, q, by omega, rfl, by go_num, (fun j e => by have := HQ.out j e; omega), HS⟩
          case measure => simp [intOf]; omega
    · obtain rfl : k = s.size := by omega
      have hsc := HSC.out
      rw [List.drop_of_length_le (by simp)] at hsc
      simp only [scan] at hsc
      clear HSC
      obtain rfl : q = some j := Option.some.inj (hsc.trans HN.out)
      clear hsc hqk
      simp only [pI]
      go_wp2
      go_ret2
      exact ⟨rfl, rfl⟩

set_option maxHeartbeats 2000000 in
set_option maxRecDepth 100000 in
theorem rp_lead_fs (s : ByteArray) (w : World) (hs : s.size ≤ 4611686018427387904) (h0 : 0 < s.size) (h45 : s[0].toNat ≠ 45) (j : Nat) (hN : scan none 0 s.data.toList = some (some j)) (hj : (j : Int) = (s.size : Int) - 3) (F : ByteArray) (hF : s.extract 0 j = F) (h20 : ¬ (20 : Int) < s.size) (h1 : 1 < F.size) (h48 : F[0].toNat = 48) :
    Calls Tryd.prog 25 #[.string s] w fun e w' => e = .returned (.tuple #[.int .i64 0, .int .i64 5]) ∧ w = w' := by
  have HC := Lib.hid (fun k hk => char_at (k := k) hN hk)
  have HN := Lib.hid hN
  clear hN
  have a1 : (0 : Int) < s.size := by omega
  have a2 : ((s[0].toNat : Int) == 45) = false := by rw [beq_eq_false_iff_ne]; omega
  have j1 : ((j : Int) == (s.size : Int) - 3) = true := by rw [beq_iff_eq]; exact hj
  have j2 : ((j : Int) != (s.size : Int) - 3) = false := by simp [bne, j1]
  have j3 : (j : Int) ≤ s.size := by omega
  have hFs : F.size = j := by rw [← hF, ByteArray.size_extract]; omega
  have HFS := Lib.hid hFs
  have HJ := Lib.hid hj
  clear hFs hj
  have te := toList_some F (by omega)
  have g1 : (1 : Int) < F.size := by omega
  have g2 : ((F[0].toNat : Int) == 48) = true := by rw [beq_iff_eq]; omega
  go_enter Tryd.func25, Tryd.ntmps25
  go_wp2
  go_loop [5, 6] (fun p i => ∃ (k : Nat) (q : Option Nat), k ≤ s.size ∧ p = .int .i64 (pI q) ∧ i = .int .i64 k ∧ (∀ j, q = some j → j < k) ∧ Hid (scan q k (s.data.toList.drop k) = scan none 0 s.data.toList)) (fun _ i => s.size - (intOf i).toNat)
  case atStart => exact ⟨0, none, Nat.zero_le _, rfl, rfl, (fun j e => by cases e), Lib.hid (by simp)⟩
  case round =>
    obtain ⟨k, q, hk, rfl, rfl, hqk, HSC⟩ := hrel
    by_cases hlt : k < s.size
    · have hsc := HSC.out
      rw [drop_at s k hlt] at hsc
      simp only [scan] at hsc
      clear HSC
      by_cases hp : s[k].toNat = 46
      · have c46 : ((s[k].toNat : Int) == 46) = true := by rw [beq_iff_eq]; omega
        have cd : (s[k].toNat : Int) < 48 := by omega
        have cn : isDig s[k] = false := by simp [isDig]; omega
        cases q with
        | none =>
          rw [if_pos ⟨hp, rfl⟩] at hsc
          have HS := Lib.hid hsc
          clear hsc hp cd cn hqk
          simp only [pI]
          go_wp2
          go_round
          case rel => exact ⟨k + 1, some k, by omega, rfl, by go_num, (fun j e => by cases e; omega), HS⟩
          case measure => simp [intOf]; omega
        | some j =>
          have hne : ¬ (s[k].toNat = 46 ∧ some j = none) := by simp
          rw [if_neg hne, cn] at hsc
          simp only [Bool.false_eq_true, if_false] at hsc
          clear hne hp cn hqk
          exact absurd (hsc.trans HN.out) (by simp)
      · have c46 : ((s[k].toNat : Int) == 46) = false := by rw [beq_eq_false_iff_ne]; omega
        have hne : ¬ (s[k].toNat = 46 ∧ q = none) := fun h => hp h.1
        rw [if_neg hne] at hsc
        clear hne hp
        cases cn : isDig s[k]
        · rw [cn] at hsc
          simp only [Bool.false_eq_true, if_false] at hsc
          have cd := isDig_no cn
          clear cn hqk
          exact absurd (hsc.trans HN.out) (by simp)
        · rw [cn] at hsc
          simp only [if_true] at hsc
          have HS := Lib.hid hsc
          obtain ⟨d1, d2⟩ := isDig_yes cn
          clear hsc cn
          have HQ := Lib.hid hqk
          clear hqk
          go_wp2
          go_round
          case rel => exact ⟨k + 1, q, by omega, rfl, by go_num, (fun j e => by have := HQ.out j e; omega), HS⟩
          case measure => simp [intOf]; omega
    · obtain rfl : k = s.size := by omega
      have hsc := HSC.out
      rw [List.drop_of_length_le (by simp)] at hsc
      simp only [scan] at hsc
      clear HSC
      obtain rfl : q = some j := Option.some.inj (hsc.trans HN.out)
      clear hsc hqk
      simp only [pI]
      go_wp2
      go_ret2
      exact ⟨rfl, rfl⟩

set_option maxHeartbeats 2000000 in
set_option maxRecDepth 100000 in
theorem rp_long_fn (s : ByteArray) (w : World) (hs : s.size ≤ 4611686018427387904) (h0 : 0 < s.size) (h45 : s[0].toNat ≠ 45) (hN : scan none 0 s.data.toList = some none) (h20 : (20 : Int) < s.size) :
    Calls Tryd.prog 25 #[.string s] w fun e w' => e = .returned (.tuple #[.int .i64 0, .int .i64 5]) ∧ w = w' := by
  have HC := Lib.hid (fun k hk => char_at (k := k) hN hk)
  have HN := Lib.hid hN
  clear hN
  have a1 : (0 : Int) < s.size := by omega
  have a2 : ((s[0].toNat : Int) == 45) = false := by rw [beq_eq_false_iff_ne]; omega
  go_enter Tryd.func25, Tryd.ntmps25
  go_wp2
  go_loop [5, 6] (fun p i => ∃ (k : Nat) (q : Option Nat), k ≤ s.size ∧ p = .int .i64 (pI q) ∧ i = .int .i64 k ∧ (∀ j, q = some j → j < k) ∧ Hid (scan q k (s.data.toList.drop k) = scan none 0 s.data.toList)) (fun _ i => s.size - (intOf i).toNat)
  case atStart => exact ⟨0, none, Nat.zero_le _, rfl, rfl, (fun j e => by cases e), Lib.hid (by simp)⟩
  case round =>
    obtain ⟨k, q, hk, rfl, rfl, hqk, HSC⟩ := hrel
    by_cases hlt : k < s.size
    · have hsc := HSC.out
      rw [drop_at s k hlt] at hsc
      simp only [scan] at hsc
      clear HSC
      by_cases hp : s[k].toNat = 46
      · have c46 : ((s[k].toNat : Int) == 46) = true := by rw [beq_iff_eq]; omega
        have cd : (s[k].toNat : Int) < 48 := by omega
        have cn : isDig s[k] = false := by simp [isDig]; omega
        cases q with
        | none =>
          rw [if_pos ⟨hp, rfl⟩] at hsc
          have HS := Lib.hid hsc
          clear hsc hp cd cn hqk
          simp only [pI]
          go_wp2
          go_round
          case rel => exact ⟨k + 1, some k, by omega, rfl, by go_num, (fun j e => by cases e; omega), HS⟩
          case measure => simp [intOf]; omega
        | some j =>
          have hne : ¬ (s[k].toNat = 46 ∧ some j = none) := by simp
          rw [if_neg hne, cn] at hsc
          simp only [Bool.false_eq_true, if_false] at hsc
          clear hne hp cn hqk
          exact absurd (hsc.trans HN.out) (by simp)
      · have c46 : ((s[k].toNat : Int) == 46) = false := by rw [beq_eq_false_iff_ne]; omega
        have hne : ¬ (s[k].toNat = 46 ∧ q = none) := fun h => hp h.1
        rw [if_neg hne] at hsc
        clear hne hp
        cases cn : isDig s[k]
        · rw [cn] at hsc
          simp only [Bool.false_eq_true, if_false] at hsc
          have cd := isDig_no cn
          clear cn hqk
          exact absurd (hsc.trans HN.out) (by simp)
        · rw [cn] at hsc
          simp only [if_true] at hsc
          have HS := Lib.hid hsc
          obtain ⟨d1, d2⟩ := isDig_yes cn
          clear hsc cn
          have HQ := Lib.hid hqk
          clear hqk
          go_wp2
          go_round
          case rel => exact ⟨k + 1, q, by omega, rfl, by go_num, (fun j e => by have := HQ.out j e; omega), HS⟩
          case measure => simp [intOf]; omega
    · obtain rfl : k = s.size := by omega
      have hsc := HSC.out
      rw [List.drop_of_length_le (by simp)] at hsc
      simp only [scan] at hsc
      clear HSC
      obtain rfl : q = none := Option.some.inj (hsc.trans HN.out)
      clear hsc hqk
      simp only [pI]
      go_wp2
      go_ret2
      exact ⟨rfl, rfl⟩

theorem rp_bare_fn (s : ByteArray) (w : World) (hs : s.size ≤ 4611686018427387904) (h0 : 0 < s.size) (h45 : s[0].toNat ≠ 45) (hN : scan none 0 s.data.toList = some none) (h20 : ¬ (20 : Int) < s.size) (h1 : s.size = 0) :
    Calls Tryd.prog 25 #[.string s] w fun e w' => e = .returned (.tuple #[.int .i64 0, .int .i64 5]) ∧ w = w' := by
  exact absurd h1 (by omega)

set_option maxHeartbeats 2000000 in
set_option maxRecDepth 100000 in
theorem rp_lead_fn (s : ByteArray) (w : World) (hs : s.size ≤ 4611686018427387904) (h0 : 0 < s.size) (h45 : s[0].toNat ≠ 45) (hN : scan none 0 s.data.toList = some none) (h20 : ¬ (20 : Int) < s.size) (h1 : 1 < s.size) (h48 : s[0].toNat = 48) :
    Calls Tryd.prog 25 #[.string s] w fun e w' => e = .returned (.tuple #[.int .i64 0, .int .i64 5]) ∧ w = w' := by
  have HC := Lib.hid (fun k hk => char_at (k := k) hN hk)
  have HN := Lib.hid hN
  clear hN
  have a1 : (0 : Int) < s.size := by omega
  have a2 : ((s[0].toNat : Int) == 45) = false := by rw [beq_eq_false_iff_ne]; omega
  have te := toList_some s (by omega)
  have g1 : (1 : Int) < s.size := by omega
  have g2 : ((s[0].toNat : Int) == 48) = true := by rw [beq_iff_eq]; omega
  go_enter Tryd.func25, Tryd.ntmps25
  go_wp2
  go_loop [5, 6] (fun p i => ∃ (k : Nat) (q : Option Nat), k ≤ s.size ∧ p = .int .i64 (pI q) ∧ i = .int .i64 k ∧ (∀ j, q = some j → j < k) ∧ Hid (scan q k (s.data.toList.drop k) = scan none 0 s.data.toList)) (fun _ i => s.size - (intOf i).toNat)
  case atStart => exact ⟨0, none, Nat.zero_le _, rfl, rfl, (fun j e => by cases e), Lib.hid (by simp)⟩
  case round =>
    obtain ⟨k, q, hk, rfl, rfl, hqk, HSC⟩ := hrel
    by_cases hlt : k < s.size
    · have hsc := HSC.out
      rw [drop_at s k hlt] at hsc
      simp only [scan] at hsc
      clear HSC
      by_cases hp : s[k].toNat = 46
      · have c46 : ((s[k].toNat : Int) == 46) = true := by rw [beq_iff_eq]; omega
        have cd : (s[k].toNat : Int) < 48 := by omega
        have cn : isDig s[k] = false := by simp [isDig]; omega
        cases q with
        | none =>
          rw [if_pos ⟨hp, rfl⟩] at hsc
          have HS := Lib.hid hsc
          clear hsc hp cd cn hqk
          simp only [pI]
          go_wp2
          go_round
          case rel => exact ⟨k + 1, some k, by omega, rfl, by go_num, (fun j e => by cases e; omega), HS⟩
          case measure => simp [intOf]; omega
        | some j =>
          have hne : ¬ (s[k].toNat = 46 ∧ some j = none) := by simp
          rw [if_neg hne, cn] at hsc
          simp only [Bool.false_eq_true, if_false] at hsc
          clear hne hp cn hqk
          exact absurd (hsc.trans HN.out) (by simp)
      · have c46 : ((s[k].toNat : Int) == 46) = false := by rw [beq_eq_false_iff_ne]; omega
        have hne : ¬ (s[k].toNat = 46 ∧ q = none) := fun h => hp h.1
        rw [if_neg hne] at hsc
        clear hne hp
        cases cn : isDig s[k]
        · rw [cn] at hsc
          simp only [Bool.false_eq_true, if_false] at hsc
          have cd := isDig_no cn
          clear cn hqk
          exact absurd (hsc.trans HN.out) (by simp)
        · rw [cn] at hsc
          simp only [if_true] at hsc
          have HS := Lib.hid hsc
          obtain ⟨d1, d2⟩ := isDig_yes cn
          clear hsc cn
          have HQ := Lib.hid hqk
          clear hqk
          go_wp2
          go_round
          case rel => exact ⟨k + 1, q, by omega, rfl, by go_num, (fun j e => by have := HQ.out j e; omega), HS⟩
          case measure => simp [intOf]; omega
    · obtain rfl : k = s.size := by omega
      have hsc := HSC.out
      rw [List.drop_of_length_le (by simp)] at hsc
      simp only [scan] at hsc
      clear HSC
      obtain rfl : q = none := Option.some.inj (hsc.trans HN.out)
      clear hsc hqk
      simp only [pI]
      go_wp2
      go_ret2
      exact ⟨rfl, rfl⟩
end Go.Proofs.YtjjeohnejhhacaaDoor
