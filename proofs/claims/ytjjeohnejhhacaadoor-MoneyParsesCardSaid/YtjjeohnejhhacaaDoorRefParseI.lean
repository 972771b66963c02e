/- The reference's reading, where digits are told: more digits than one ahead. -/
import Derived.Test.YtjjeohnejhhacaaDoorRefParse
namespace Go.Proofs.YtjjeohnejhhacaaDoor
open Go.RowKit
set_option linter.unusedVariables false
set_option linter.unusedSimpArgs false

set_option maxHeartbeats 2000000 in
set_option maxRecDepth 100000 in
theorem rp_numi_ts (s t : ByteArray) (w : World) (hs : s.size ≤ 4611686018427387904) (h0 : 0 < s.size) (h45 : s[0].toNat = 45) (ht : s.extract 1 s.size = t) (j : Nat) (hN : scan none 0 t.data.toList = some (some j)) (hj : (j : Int) = (t.size : Int) - 3) (F : ByteArray) (hF : t.extract 0 j = F) (h20 : ¬ (20 : Int) < t.size) (N : Int) (G S : Bool) (hD : digs 0 false false t.data.toList = (N, G, S)) (h1 : 1 < F.size) (h48 : F[0].toNat ≠ 48) :
    Calls Tryd.prog 25 #[.string s] w fun e w' => e = .returned (.tuple #[.int .i64 (pEnd true N G S).1, .int .i64 (pEnd true N G S).2]) ∧ w = w' := by
  have HC := Lib.hid (fun k hk => char_at (k := k) hN hk)
  have HN := Lib.hid hN
  clear hN
  have a1 : (0 : Int) < s.size := by omega
  have a2 : ((s[0].toNat : Int) == 45) = true := by rw [beq_iff_eq]; omega
  have a3 : (1 : Int) ≤ s.size := by omega
  have hts : t.size = s.size - 1 := by rw [← ht, ByteArray.size_extract]; omega
  have hsz : t.size ≤ 4611686018427387904 := by omega
  have j1 : ((j : Int) == (t.size : Int) - 3) = true := by rw [beq_iff_eq]; exact hj
  have j2 : ((j : Int) != (t.size : Int) - 3) = false := by simp [bne, j1]
  have j3 : (j : Int) ≤ t.size := by omega
  have hFs : F.size = j := by rw [← hF, ByteArray.size_extract]; omega
  have HFS := Lib.hid hFs
  have HJ := Lib.hid hj
  clear hFs hj
  have te := toList_some F (by omega)
  have g1 : (1 : Int) < F.size := by omega
  have g2 : ((F[0].toNat : Int) == 48) = false := by rw [beq_eq_false_iff_ne]; omega
  go_enter Tryd.func25, Tryd.ntmps25
  go_wp2
  clear ht a1 a2 a3
  go_loop [5, 6] (fun p i => ∃ (k : Nat) (q : Option Nat), k ≤ t.size ∧ p = .int .i64 (pI q) ∧ i = .int .i64 k ∧ (∀ j, q = some j → j < k) ∧ Hid (scan q k (t.data.toList.drop k) = scan none 0 t.data.toList)) (fun _ i => t.size - (intOf i).toNat)
  case atStart => exact ⟨0, none, Nat.zero_le _, rfl, rfl, (fun j e => by cases e), Lib.hid (by simp)⟩
  case round =>
    obtain ⟨k, q, hk, rfl, rfl, hqk, HSC⟩ := hrel
    by_cases hlt : k < t.size
    · have hsc := HSC.out
      rw [drop_at t k hlt] at hsc
      simp only [scan] at hsc
      clear HSC
      by_cases hp : t[k].toNat = 46
      · have c46 : ((t[k].toNat : Int) == 46) = true := by rw [beq_iff_eq]; omega
        have cd : (t[k].toNat : Int) < 48 := by omega
        have cn : isDig t[k] = false := by simp [isDig]; omega
        cases q with
        | none =>
          rw [if_pos ⟨hp, rfl⟩] at hsc
          have HS := Lib.hid hsc
          clear hsc hp cd cn hqk
          simp only [pI]
          go_wp2
          go_round
          case rel => exact ⟨k + 1, some k, by omega, rfl, by go_num, (fun j e => by cases e; omega), HS⟩
          case measure => simp [intOf]; omega
        | some j =>
          have hne : ¬ (t[k].toNat = 46 ∧ some j = none) := by simp
          rw [if_neg hne, cn] at hsc
          simp only [Bool.false_eq_true, if_false] at hsc
          clear hne hp cn hqk
          exact absurd (hsc.trans HN.out) (by simp)
      · have c46 : ((t[k].toNat : Int) == 46) = false := by rw [beq_eq_false_iff_ne]; omega
        have hne : ¬ (t[k].toNat = 46 ∧ q = none) := fun h => hp h.1
        rw [if_neg hne] at hsc
        clear hne hp
        cases cn : isDig t[k]
        · rw [cn] at hsc
          simp only [Bool.false_eq_true, if_false] at hsc
          have cd := isDig_no cn
          clear cn hqk
          exact absurd (hsc.trans HN.out) (by simp)
        · rw [cn] at hsc
          simp only [if_true] at hsc
          have HS := Lib.hid hsc
          obtain ⟨d1, d2⟩ := isDig_yes cn
          clear hsc cn
          have HQ := Lib.hid hqk
          clear hqk
          go_wp2
          go_round
          case rel => exact ⟨k + 1, q, by omega, rfl, by go_num, (fun j e => by have := HQ.out j e; omega), HS⟩
          case measure => simp [intOf]; omega
    · obtain rfl : k = t.size := by omega
      have hsc := HSC.out
      rw [List.drop_of_length_le (by simp)] at hsc
      simp only [scan] at hsc
      clear HSC
      obtain rfl : q = some j := Option.some.inj (hsc.trans HN.out)
      clear hsc hqk
      simp only [pI]
      have HD := Lib.hid hD
      clear hD
      go_wp2
      go_loop [8, 9, 10, 11] (fun a c d i => ∃ (k : Nat) (n : Int) (g u : Bool), k ≤ t.size ∧ a = .int .i64 n ∧ c = .bool g ∧ d = .bool u ∧ i = .int .i64 k ∧ 0 ≤ n ∧ n ≤ 10000000000000 ∧ Hid (digs n g u (t.data.toList.drop k) = digs 0 false false t.data.toList)) (fun _ _ _ i => t.size - (intOf i).toNat)
      case atStart => exact ⟨0, 0, false, false, Nat.zero_le _, rfl, rfl, rfl, rfl, by omega, by omega, Lib.hid (by simp)⟩
      case round =>
        clear hk
        obtain ⟨k, n, g, u, hk, rfl, rfl, rfl, rfl, n0, n1, HK⟩ := hrel
        by_cases hlt : k < t.size
        · have hd := HK.out
          rw [drop_at t k hlt] at hd
          simp only [digs] at hd
          clear HK
          by_cases h46 : t[k].toNat = 46
          · rw [if_pos h46] at hd
            have HX := Lib.hid hd
            have c46 : ((t[k].toNat : Int) == 46) = true := by rw [beq_iff_eq]; omega
            clear hd h46
            go_wp2
            go_round
            case rel => exact ⟨k + 1, n, g, u, by omega, rfl, rfl, rfl, by go_num, by omega, by omega, HX⟩
            case measure => simp [intOf]; omega
          · rw [if_neg h46] at hd
            obtain ⟨d1, d2⟩ := isDig_yes ((HC.out k hlt).resolve_left h46)
            have c46 : ((t[k].toNat : Int) == 46) = false := by rw [beq_eq_false_iff_ne]; omega
            clear h46
            by_cases hov : 10000000000000 < 10 * n + ((t[k].toNat : Int) - 48)
            · rw [if_pos hov] at hd
              cases u
              · by_cases h8 : t[k].toNat = 48
                · have HX := Lib.hid (show digs 0 true false (t.data.toList.drop (k + 1)) = digs 0 false false t.data.toList by rw [← hd]; simp [h8])
                  have c8 : ((t[k].toNat : Int) == 48) = true := by rw [beq_iff_eq]; omega
                  have c9 : ((t[k].toNat : Int) != 48) = false := by simp [bne, c8]
                  clear hd h8
                  go_wp2
                  go_round
                  case rel => exact ⟨k + 1, 0, true, false, by omega, rfl, rfl, rfl, by go_num, by omega, by omega, HX⟩
                  case measure => simp [intOf]; omega
                · have HX := Lib.hid (show digs 0 true true (t.data.toList.drop (k + 1)) = digs 0 false false t.data.toList by rw [← hd]; simp [h8])
                  have c8 : ((t[k].toNat : Int) == 48) = false := by rw [beq_eq_false_iff_ne]; omega
                  have c9 : ((t[k].toNat : Int) != 48) = true := by simp [bne, c8]
                  clear hd h8
                  go_wp2
                  go_round
                  case rel => exact ⟨k + 1, 0, true, true, by omega, rfl, rfl, rfl, by go_num, by omega, by omega, HX⟩
                  case measure => simp [intOf]; omega
              · have HX := Lib.hid (show digs 0 true true (t.data.toList.drop (k + 1)) = digs 0 false false t.data.toList by rw [← hd]; simp)
                clear hd
                go_wp2
                go_round
                case rel => exact ⟨k + 1, 0, true, true, by omega, rfl, rfl, rfl, by go_num, by omega, by omega, HX⟩
                case measure => simp [intOf]; omega
            · rw [if_neg hov] at hd
              cases u
              · by_cases h8 : t[k].toNat = 48
                · have HX := Lib.hid (show digs (10 * n + ((t[k].toNat : Int) - 48)) g false (t.data.toList.drop (k + 1)) = digs 0 false false t.data.toList by rw [← hd]; simp [h8])
                  have c8 : ((t[k].toNat : Int) == 48) = true := by rw [beq_iff_eq]; omega
                  have c9 : ((t[k].toNat : Int) != 48) = false := by simp [bne, c8]
                  clear hd h8
                  go_wp2
                  go_round
                  case rel => exact ⟨k + 1, _, g, false, by omega, rfl, rfl, rfl, by go_num, by omega, by omega, HX⟩
                  case measure => simp [intOf]; omega
                · have HX := Lib.hid (show digs (10 * n + ((t[k].toNat : Int) - 48)) g true (t.data.toList.drop (k + 1)) = digs 0 false false t.data.toList by rw [← hd]; simp [h8])
                  have c8 : ((t[k].toNat : Int) == 48) = false := by rw [beq_eq_false_iff_ne]; omega
                  have c9 : ((t[k].toNat : Int) != 48) = true := by simp [bne, c8]
                  clear hd h8
                  go_wp2
                  go_round
                  case rel => exact ⟨k + 1, _, g, true, by omega, rfl, rfl, rfl, by go_num, by omega, by omega, HX⟩
                  case measure => simp [intOf]; omega
              · have HX := Lib.hid (show digs (10 * n + ((t[k].toNat : Int) - 48)) g true (t.data.toList.drop (k + 1)) = digs 0 false false t.data.toList by rw [← hd]; simp)
                clear hd
                go_wp2
                go_round
                case rel => exact ⟨k + 1, _, g, true, by omega, rfl, rfl, rfl, by go_num, by omega, by omega, HX⟩
                case measure => simp [intOf]; omega
        · obtain rfl : k = t.size := by omega
          have hd := HK.out
          rw [List.drop_of_length_le (by simp)] at hd
          simp only [digs] at hd
          have he := hd.trans HD.out
          simp only [Prod.mk.injEq] at he
          obtain ⟨e1, e2, e3⟩ := he
          clear hd HK
          subst e1 e2 e3
          clear HC HN HD
          cases u
          · have HE := Lib.hid (show pEnd true n g false = (0, 5) by simp [pEnd])
            go_wp2
            go_ret2
            exact ⟨ret_pair HE.out, rfl⟩
          · cases g
            · by_cases hm : 100000000000 < n
              · have HE := Lib.hid (show pEnd true n false true = (0, 10) by simp [pEnd, hm])
                go_wp2
                go_ret2
                exact ⟨ret_pair HE.out, rfl⟩
              · have HE := Lib.hid (show pEnd true n false true = (-n, 0) by simp [pEnd, hm])
                go_wp2
                go_ret2
                exact ⟨ret_pair HE.out, rfl⟩
            · have HE := Lib.hid (show pEnd true n true true = (0, 10) by simp [pEnd])
              go_wp2
              go_ret2
              exact ⟨ret_pair HE.out, rfl⟩


set_option maxHeartbeats 2000000 in
set_option maxRecDepth 100000 in
theorem rp_numi_tn (s t : ByteArray) (w : World) (hs : s.size ≤ 4611686018427387904) (h0 : 0 < s.size) (h45 : s[0].toNat = 45) (ht : s.extract 1 s.size = t) (hN : scan none 0 t.data.toList = some none) (h20 : ¬ (20 : Int) < t.size) (N : Int) (G S : Bool) (hD : digs 0 false false t.data.toList = (N, G, S)) (h1 : 1 < t.size) (h48 : t[0].toNat ≠ 48) :
    Calls Tryd.prog 25 #[.string s] w fun e w' => e = .returned (.tuple #[.int .i64 (pEnd true (N * 100) G S).1, .int .i64 (pEnd true (N * 100) G S).2]) ∧ w = w' := by
  have HC := Lib.hid (fun k hk => char_at (k := k) hN hk)
  have HN := Lib.hid hN
  clear hN
  have a1 : (0 : Int) < s.size := by omega
  have a2 : ((s[0].toNat : Int) == 45) = true := by rw [beq_iff_eq]; omega
  have a3 : (1 : Int) ≤ s.size := by omega
  have hts : t.size = s.size - 1 := by rw [← ht, ByteArray.size_extract]; omega
  have hsz : t.size ≤ 4611686018427387904 := by omega
  have te := toList_some t (by omega)
  have g1 : (1 : Int) < t.size := by omega
  have g2 : ((t[0].toNat : Int) == 48) = false := by rw [beq_eq_false_iff_ne]; omega
  go_enter Tryd.func25, Tryd.ntmps25
  go_wp2
  clear ht a1 a2 a3
  go_loop [5, 6] (fun p i => ∃ (k : Nat) (q : Option Nat), k ≤ t.size ∧ p = .int .i64 (pI q) ∧ i = .int .i64 k ∧ (∀ j, q = some j → j < k) ∧ Hid (scan q k (t.data.toList.drop k) = scan none 0 t.data.toList)) (fun _ i => t.size - (intOf i).toNat)
  case atStart => exact ⟨0, none, Nat.zero_le _, rfl, rfl, (fun j e => by cases e), Lib.hid (by simp)⟩
  case round =>
    obtain ⟨k, q, hk, rfl, rfl, hqk, HSC⟩ := hrel
    by_cases hlt : k < t.size
    · have hsc := HSC.out
      rw [drop_at t k hlt] at hsc
      simp only [scan] at hsc
      clear HSC
      by_cases hp : t[k].toNat = 46
      · have c46 : ((t[k].toNat : Int) == 46) = true := by rw [beq_iff_eq]; omega
        have cd : (t[k].toNat : Int) < 48 := by omega
        have cn : isDig t[k] = false := by simp [isDig]; omega
        cases q with
        | none =>
          rw [if_pos ⟨hp, rfl⟩] at hsc
          have HS := Lib.hid hsc
          clear hsc hp cd cn hqk
          simp only [pI]
          go_wp2
          go_round
          case rel => exact ⟨k + 1, some k, by omega, rfl, by go_num, (fun j e => by cases e; omega), HS⟩
          case measure => simp [intOf]; omega
        | some j =>
          have hne : ¬ (t[k].toNat = 46 ∧ some j = none) := by simp
          rw [if_neg hne, cn] at hsc
          simp only [Bool.false_eq_true, if_false] at hsc
          clear hne hp cn hqk
          exact absurd (hsc.trans HN.out) (by simp)
      · have c46 : ((t[k].toNat : Int) == 46) = false := by rw [beq_eq_false_iff_ne]; omega
        have hne : ¬ (t[k].toNat = 46 ∧ q = none) := fun h => hp h.1
        rw [if_neg hne] at hsc
        clear hne hp
        cases cn : isDig t[k]
        · rw [cn] at hsc
          simp only [Bool.false_eq_true, if_false] at hsc
          have cd := isDig_no cn
          clear cn hqk
          exact absurd (hsc.trans HN.out) (by simp)
        · rw [cn] at hsc
          simp only [if_true] at hsc
          have HS := Lib.hid hsc
          obtain ⟨d1, d2⟩ := isDig_yes cn
          clear hsc cn
          have HQ := Lib.hid hqk
          clear hqk
          go_wp2
          go_round
          case rel => exact ⟨k + 1, q, by omega, rfl, by go_num, (fun j e => by have := HQ.out j e; omega), HS⟩
          case measure => simp [intOf]; omega
    · obtain rfl : k = t.size := by omega
      have hsc := HSC.out
      rw [List.drop_of_length_le (by simp)] at hsc
      simp only [scan] at hsc
      clear HSC
      obtain rfl : q = none := Option.some.inj (hsc.trans HN.out)
      clear hsc hqk
      simp only [pI]
      have HD := Lib.hid hD
      clear hD
      go_wp2
      go_loop [8, 9, 10, 11] (fun a c d i => ∃ (k : Nat) (n : Int) (g u : Bool), k ≤ t.size ∧ a = .int .i64 n ∧ c = .bool g ∧ d = .bool u ∧ i = .int .i64 k ∧ 0 ≤ n ∧ n ≤ 10000000000000 ∧ Hid (digs n g u (t.data.toList.drop k) = digs 0 false false t.data.toList)) (fun _ _ _ i => t.size - (intOf i).toNat)
      case atStart => exact ⟨0, 0, false, false, Nat.zero_le _, rfl, rfl, rfl, rfl, by omega, by omega, Lib.hid (by simp)⟩
      case round =>
        clear hk
        obtain ⟨k, n, g, u, hk, rfl, rfl, rfl, rfl, n0, n1, HK⟩ := hrel
        by_cases hlt : k < t.size
        · have hd := HK.out
          rw [drop_at t k hlt] at hd
          simp only [digs] at hd
          clear HK
          by_cases h46 : t[k].toNat = 46
          · rw [if_pos h46] at hd
            have HX := Lib.hid hd
            have c46 : ((t[k].toNat : Int) == 46) = true := by rw [beq_iff_eq]; omega
            clear hd h46
            go_wp2
            go_round
            case rel => exact ⟨k + 1, n, g, u, by omega, rfl, rfl, rfl, by go_num, by omega, by omega, HX⟩
            case measure => simp [intOf]; omega
          · rw [if_neg h46] at hd
            obtain ⟨d1, d2⟩ := isDig_yes ((HC.out k hlt).resolve_left h46)
            have c46 : ((t[k].toNat : Int) == 46) = false := by rw [beq_eq_false_iff_ne]; omega
            clear h46
            by_cases hov : 10000000000000 < 10 * n + ((t[k].toNat : Int) - 48)
            · rw [if_pos hov] at hd
              cases u
              · by_cases h8 : t[k].toNat = 48
                · have HX := Lib.hid (show digs 0 true false (t.data.toList.drop (k + 1)) = digs 0 false false t.data.toList by rw [← hd]; simp [h8])
                  have c8 : ((t[k].toNat : Int) == 48) = true := by rw [beq_iff_eq]; omega
                  have c9 : ((t[k].toNat : Int) != 48) = false := by simp [bne, c8]
                  clear hd h8
                  go_wp2
                  go_round
                  case rel => exact ⟨k + 1, 0, true, false, by omega, rfl, rfl, rfl, by go_num, by omega, by omega, HX⟩
                  case measure => simp [intOf]; omega
                · have HX := Lib.hid (show digs 0 true true (t.data.toList.drop (k + 1)) = digs 0 false false t.data.toList by rw [← hd]; simp [h8])
                  have c8 : ((t[k].toNat : Int) == 48) = false := by rw [beq_eq_false_iff_ne]; omega
                  have c9 : ((t[k].toNat : Int) != 48) = true := by simp [bne, c8]
                  clear hd h8
                  go_wp2
                  go_round
                  case rel => exact ⟨k + 1, 0, true, true, by omega, rfl, rfl, rfl, by go_num, by omega, by omega, HX⟩
                  case measure => simp [intOf]; omega
              · have HX := Lib.hid (show digs 0 true true (t.data.toList.drop (k + 1)) = digs 0 false false t.data.toList by rw [← hd]; simp)
                clear hd
                go_wp2
                go_round
                case rel => exact ⟨k + 1, 0, true, true, by omega, rfl, rfl, rfl, by go_num, by omega, by omega, HX⟩
                case measure => simp [intOf]; omega
            · rw [if_neg hov] at hd
              cases u
              · by_cases h8 : t[k].toNat = 48
                · have HX := Lib.hid (show digs (10 * n + ((t[k].toNat : Int) - 48)) g false (t.data.toList.drop (k + 1)) = digs 0 false false t.data.toList by rw [← hd]; simp [h8])
                  have c8 : ((t[k].toNat : Int) == 48) = true := by rw [beq_iff_eq]; omega
                  have c9 : ((t[k].toNat : Int) != 48) = false := by simp [bne, c8]
                  clear hd h8
                  go_wp2
                  go_round
                  case rel => exact ⟨k + 1, _, g, false, by omega, rfl, rfl, rfl, by go_num, by omega, by omega, HX⟩
                  case measure => simp [intOf]; omega
                · have HX := Lib.hid (show digs (10 * n + ((t[k].toNat : Int) - 48)) g true (t.data.toList.drop (k + 1)) = digs 0 false false t.data.toList by rw [← hd]; simp [h8])
                  have c8 : ((t[k].toNat : Int) == 48) = false := by rw [beq_eq_false_iff_ne]; omega
                  have c9 : ((t[k].toNat : Int) != 48) = true := by simp [bne, c8]
                  clear hd h8
                  go_wp2
                  go_round
                  case rel => exact ⟨k + 1, _, g, true, by omega, rfl, rfl, rfl, by go_num, by omega, by omega, HX⟩
                  case measure => simp [intOf]; omega
              · have HX := Lib.hid (show digs (10 * n + ((t[k].toNat : Int) - 48)) g true (t.data.toList.drop (k + 1)) = digs 0 false false t.data.toList by rw [← hd]; simp)
                clear hd
                go_wp2
                go_round
                case rel => exact ⟨k + 1, _, g, true, by omega, rfl, rfl, rfl, by go_num, by omega, by omega, HX⟩
                case measure => simp [intOf]; omega
        · obtain rfl : k = t.size := by omega
          have hd := HK.out
          rw [List.drop_of_length_le (by simp)] at hd
          simp only [digs] at hd
          have he := hd.trans HD.out
          simp only [Prod.mk.injEq] at he
          obtain ⟨e1, e2, e3⟩ := he
          clear hd HK
          subst e1 e2 e3
          clear HC HN HD
          cases u
          · have HE := Lib.hid (show pEnd true (n * 100) g false = (0, 5) by simp [pEnd])
            go_wp2
            go_ret2
            exact ⟨ret_pair HE.out, rfl⟩
          · cases g
            · by_cases hm : 100000000000 < (n * 100)
              · have HE := Lib.hid (show pEnd true (n * 100) false true = (0, 10) by simp [pEnd, hm])
                go_wp2
                go_ret2
                exact ⟨ret_pair HE.out, rfl⟩
              · have HE := Lib.hid (show pEnd true (n * 100) false true = (-(n * 100), 0) by simp [pEnd, hm])
                go_wp2
                go_ret2
                exact ⟨ret_pair HE.out, rfl⟩
            · have HE := Lib.hid (show pEnd true (n * 100) true true = (0, 10) by simp [pEnd])
              go_wp2
              go_ret2
              exact ⟨ret_pair HE.out, rfl⟩


set_option maxHeartbeats 2000000 in
set_option maxRecDepth 100000 in
theorem rp_numi_fs (s : ByteArray) (w : World) (hs : s.size ≤ 4611686018427387904) (h0 : 0 < s.size) (h45 : s[0].toNat ≠ 45) (j : Nat) (hN : scan none 0 s.data.toList = some (some j)) (hj : (j : Int) = (s.size : Int) - 3) (F : ByteArray) (hF : s.extract 0 j = F) (h20 : ¬ (20 : Int) < s.size) (N : Int) (G S : Bool) (hD : digs 0 false false s.data.toList = (N, G, S)) (h1 : 1 < F.size) (h48 : F[0].toNat ≠ 48) :
    Calls Tryd.prog 25 #[.string s] w fun e w' => e = .returned (.tuple #[.int .i64 (pEnd false N G S).1, .int .i64 (pEnd false N G S).2]) ∧ w = w' := by
  have HC := Lib.hid (fun k hk => char_at (k := k) hN hk)
  have HN := Lib.hid hN
  clear hN
  have a1 : (0 : Int) < s.size := by omega
  have a2 : ((s[0].toNat : Int) == 45) = false := by rw [beq_eq_false_iff_ne]; omega
  have j1 : ((j : Int) == (s.size : Int) - 3) = true := by rw [beq_iff_eq]; exact hj
  have j2 : ((j : Int) != (s.size : Int) - 3) = false := by simp [bne, j1]
  have j3 : (j : Int) ≤ s.size := by omega
  have hFs : F.size = j := by rw [← hF, ByteArray.size_extract]; omega
  have HFS := Lib.hid hFs
  have HJ := Lib.hid hj
  clear hFs hj
  have te := toList_some F (by omega)
  have g1 : (1 : Int) < F.size := by omega
  have g2 : ((F[0].toNat : Int) == 48) = false := by rw [beq_eq_false_iff_ne]; omega
  go_enter Tryd.func25, Tryd.ntmps25
  go_wp2
  go_loop [5, 6] (fun p i => ∃ (k : Nat) (q : Option Nat), k ≤ s.size ∧ p = .int .i64 (pI q) ∧ i = .int .i64 k ∧ (∀ j, q = some j → j < k) ∧ Hid (scan q k (s.data.toList.drop k) = scan none 0 s.data.toList)) (fun _ i => s.size - (intOf i).toNat)
  case atStart => exact ⟨0, none, Nat.zero_le _, rfl, rfl, (fun j e => by cases e), Lib.hid (by simp)⟩
  case round =>
    obtain ⟨k, q, hk, rfl, rfl, hqk, HSC⟩ := hrel
    by_cases hlt : k < s.size
    · have hsc := HSC.out
      rw [drop_at s k hlt] at hsc
      simp only [scan] at hsc
      clear HSC
      by_cases hp : s[k].toNat = 46
      · have c46 : ((s[k].toNat : Int) == 46) = true := by rw [beq_iff_eq]; omega
        have cd : (s[k].toNat : Int) < 48 := by omega
        have cn : isDig s[k] = false := by simp [isDig]; omega
        cases q with
        | none =>
          rw [if_pos ⟨hp, rfl⟩] at hsc
          have HS := Lib.hid hsc
          clear hsc hp cd cn hqk
          simp only [pI]
          go_wp2
          go_round
          case rel => exact ⟨k + 1, some k, by omega, rfl, by go_num, (fun j e => by cases e; omega), HS⟩
          case measure => simp [intOf]; omega
        | some j =>
          have hne : ¬ (s[k].toNat = 46 ∧ some j = none) := by simp
          rw [if_neg hne, cn] at hsc
          simp only [Bool.false_eq_true, if_false] at hsc
          clear hne hp cn hqk
          exact absurd (hsc.trans HN.out) (by simp)
      · have c46 : ((s[k].toNat : Int) == 46) = false := by rw [beq_eq_false_iff_ne]; omega
        have hne : ¬ (s[k].toNat = 46 ∧ q = none) := fun h => hp h.1
        rw [if_neg hne] at hsc
        clear hne hp
        cases cn : isDig s[k]
        · rw [cn] at hsc
          simp only [Bool.false_eq_true, if_false] at hsc
          have cd := isDig_no cn
          clear cn hqk
          exact absurd (hsc.trans HN.out) (by simp)
        · rw [cn] at hsc
          simp only [if_true] at hsc
          have HS := Lib.hid hsc
          obtain ⟨d1, d2⟩ := isDig_yes cn
          clear hsc cn
          have HQ := Lib.hid hqk
          clear hqk
          go_wp2
          go_round
          case rel => exact ⟨k + 1, q, by omega, rfl, by go_num, (fun j e => by have := HQ.out j e; omega), HS⟩
          case measure => simp [intOf]; omega
    · obtain rfl : k = s.size := by omega
      have hsc := HSC.out
      rw [List.drop_of_length_le (by simp)] at hsc
      simp only [scan] at hsc
      clear HSC
      obtain rfl : q = some j := Option.some.inj (hsc.trans HN.out)
      clear hsc hqk
      simp only [pI]
      have HD := Lib.hid hD
      clear hD
      go_wp2
      go_loop [8, 9, 10, 11] (fun a c d i => ∃ (k : Nat) (n : Int) (g u : Bool), k ≤ s.size ∧ a = .int .i64 n ∧ c = .bool g ∧ d = .bool u ∧ i = .int .i64 k ∧ 0 ≤ n ∧ n ≤ 10000000000000 ∧ Hid (digs n g u (s.data.toList.drop k) = digs 0 false false s.data.toList)) (fun _ _ _ i => s.size - (intOf i).toNat)
      case atStart => exact ⟨0, 0, false, false, Nat.zero_le _, rfl, rfl, rfl, rfl, by omega, by omega, Lib.hid (by simp)⟩
      case round =>
        clear hk
        obtain ⟨k, n, g, u, hk, rfl, rfl, rfl, rfl, n0, n1, HK⟩ := hrel
        by_cases hlt : k < s.size
        · have hd := HK.out
          rw [drop_at s k hlt] at hd
          simp only [digs] at hd
          clear HK
          by_cases h46 : s[k].toNat = 46
          · rw [if_pos h46] at hd
            have HX := Lib.hid hd
            have c46 : ((s[k].toNat : Int) == 46) = true := by rw [beq_iff_eq]; omega
            clear hd h46
            go_wp2
            go_round
            case rel => exact ⟨k + 1, n, g, u, by omega, rfl, rfl, rfl, by go_num, by omega, by omega, HX⟩
            case measure => simp [intOf]; omega
          · rw [if_neg h46] at hd
            obtain ⟨d1, d2⟩ := isDig_yes ((HC.out k hlt).resolve_left h46)
            have c46 : ((s[k].toNat : Int) == 46) = false := by rw [beq_eq_false_iff_ne]; omega
            clear h46
            by_cases hov : 10000000000000 < 10 * n + ((s[k].toNat : Int) - 48)
            · rw [if_pos hov] at hd
              cases u
              · by_cases h8 : s[k].toNat = 48
                · have HX := Lib.hid (show digs 0 true false (s.data.toList.drop (k + 1)) = digs 0 false false s.data.toList by rw [← hd]; simp [h8])
                  have c8 : ((s[k].toNat : Int) == 48) = true := by rw [beq_iff_eq]; omega
                  have c9 : ((s[k].toNat : Int) != 48) = false := by simp [bne, c8]
                  clear hd h8
                  go_wp2
                  go_round
                  case rel => exact ⟨k + 1, 0, true, false, by omega, rfl, rfl, rfl, by go_num, by omega, by omega, HX⟩
                  case measure => simp [intOf]; omega
                · have HX := Lib.hid (show digs 0 true true (s.data.toList.drop (k + 1)) = digs 0 false false s.data.toList by rw [← hd]; simp [h8])
                  have c8 : ((s[k].toNat : Int) == 48) = false := by rw [beq_eq_false_iff_ne]; omega
                  have c9 : ((s[k].toNat : Int) != 48) = true := by simp [bne, c8]
                  clear hd h8
                  go_wp2
                  go_round
                  case rel => exact ⟨k + 1, 0, true, true, by omega, rfl, rfl, rfl, by go_num, by omega, by omega, HX⟩
                  case measure => simp [intOf]; omega
              · have HX := Lib.hid (show digs 0 true true (s.data.toList.drop (k + 1)) = digs 0 false false s.data.toList by rw [← hd]; simp)
                clear hd
                go_wp2
                go_round
                case rel => exact ⟨k + 1, 0, true, true, by omega, rfl, rfl, rfl, by go_num, by omega, by omega, HX⟩
                case measure => simp [intOf]; omega
            · rw [if_neg hov] at hd
              cases u
              · by_cases h8 : s[k].toNat = 48
                · have HX := Lib.hid (show digs (10 * n + ((s[k].toNat : Int) - 48)) g false (s.data.toList.drop (k + 1)) = digs 0 false false s.data.toList by rw [← hd]; simp [h8])
                  have c8 : ((s[k].toNat : Int) == 48) = true := by rw [beq_iff_eq]; omega
                  have c9 : ((s[k].toNat : Int) != 48) = false := by simp [bne, c8]
                  clear hd h8
                  go_wp2
                  go_round
                  case rel => exact ⟨k + 1, _, g, false, by omega, rfl, rfl, rfl, by go_num, by omega, by omega, HX⟩
                  case measure => simp [intOf]; omega
                · have HX := Lib.hid (show digs (10 * n + ((s[k].toNat : Int) - 48)) g true (s.data.toList.drop (k + 1)) = digs 0 false false s.data.toList by rw [← hd]; simp [h8])
                  have c8 : ((s[k].toNat : Int) == 48) = false := by rw [beq_eq_false_iff_ne]; omega
                  have c9 : ((s[k].toNat : Int) != 48) = true := by simp [bne, c8]
                  clear hd h8
                  go_wp2
                  go_round
                  case rel => exact ⟨k + 1, _, g, true, by omega, rfl, rfl, rfl, by go_num, by omega, by omega, HX⟩
                  case measure => simp [intOf]; omega
              · have HX := Lib.hid (show digs (10 * n + ((s[k].toNat : Int) - 48)) g true (s.data.toList.drop (k + 1)) = digs 0 false false s.data.toList by rw [← hd]; simp)
                clear hd
                go_wp2
                go_round
                case rel => exact ⟨k + 1, _, g, true, by omega, rfl, rfl, rfl, by go_num, by omega, by omega, HX⟩
                case measure => simp [intOf]; omega
        · obtain rfl : k = s.size := by omega
          have hd := HK.out
          rw [List.drop_of_length_le (by simp)] at hd
          simp only [digs] at hd
          have he := hd.trans HD.out
          simp only [Prod.mk.injEq] at he
          obtain ⟨e1, e2, e3⟩ := he
          clear hd HK
          subst e1 e2 e3
          clear HC HN HD
          cases g
          · by_cases hm : 100000000000 < n
            · have HE := Lib.hid (show pEnd false n false u = (0, 10) by simp [pEnd, hm])
              go_wp2
              go_ret2
              exact ⟨ret_pair HE.out, rfl⟩
            · have HE := Lib.hid (show pEnd false n false u = (n, 0) by simp [pEnd, hm])
              go_wp2
              go_ret2
              exact ⟨ret_pair HE.out, rfl⟩
          · have HE := Lib.hid (show pEnd false n true u = (0, 10) by simp [pEnd])
            go_wp2
            go_ret2
            exact ⟨ret_pair HE.out, rfl⟩


set_option maxHeartbeats 2000000 in
set_option maxRecDepth 100000 in
theorem rp_numi_fn (s : ByteArray) (w : World) (hs : s.size ≤ 4611686018427387904) (h0 : 0 < s.size) (h45 : s[0].toNat ≠ 45) (hN : scan none 0 s.data.toList = some none) (h20 : ¬ (20 : Int) < s.size) (N : Int) (G S : Bool) (hD : digs 0 false false s.data.toList = (N, G, S)) (h1 : 1 < s.size) (h48 : s[0].toNat ≠ 48) :
    Calls Tryd.prog 25 #[.string s] w fun e w' => e = .returned (.tuple #[.int .i64 (pEnd false (N * 100) G S).1, .int .i64 (pEnd false (N * 100) G S).2]) ∧ w = w' := by
  have HC := Lib.hid (fun k hk => char_at (k := k) hN hk)
  have HN := Lib.hid hN
  clear hN
  have a1 : (0 : Int) < s.size := by omega
  have a2 : ((s[0].toNat : Int) == 45) = false := by rw [beq_eq_false_iff_ne]; omega
  have te := toList_some s (by omega)
  have g1 : (1 : Int) < s.size := by omega
  have g2 : ((s[0].toNat : Int) == 48) = false := by rw [beq_eq_false_iff_ne]; omega
  go_enter Tryd.func25, Tryd.ntmps25
  go_wp2
  go_loop [5, 6] (fun p i => ∃ (k : Nat) (q : Option Nat), k ≤ s.size ∧ p = .int .i64 (pI q) ∧ i = .int .i64 k ∧ (∀ j, q = some j → j < k) ∧ Hid (scan q k (s.data.toList.drop k) = scan none 0 s.data.toList)) (fun _ i => s.size - (intOf i).toNat)
  case atStart => exact ⟨0, none, Nat.zero_le _, rfl, rfl, (fun j e => by cases e), Lib.hid (by simp)⟩
  case round =>
    obtain ⟨k, q, hk, rfl, rfl, hqk, HSC⟩ := hrel
    by_cases hlt : k < s.size
    · have hsc := HSC.out
      rw [drop_at s k hlt] at hsc
      simp only [scan] at hsc
      clear HSC
      by_cases hp : s[k].toNat = 46
      · have c46 : ((s[k].toNat : Int) == 46) = true := by rw [beq_iff_eq]; omega
        have cd : (s[k].toNat : Int) < 48 := by omega
        have cn : isDig s[k] = false := by simp [isDig]; omega
        cases q with
        | none =>
          rw [if_pos ⟨hp, rfl⟩] at hsc
          have HS := Lib.hid hsc
          clear hsc hp cd cn hqk
          simp only [pI]
          go_wp2
          go_round
          case rel => exact ⟨k + 1, some k, by omega, rfl, by go_num, (fun j e => by cases e; omega), HS⟩
          case measure => simp [intOf]; omega
        | some j =>
          have hne : ¬ (s[k].toNat = 46 ∧ some j = none) := by simp
          rw [if_neg hne, cn] at hsc
          simp only [Bool.false_eq_true, if_false] at hsc
          clear hne hp cn hqk
          exact absurd (hsc.trans HN.out) (by simp)
      · have c46 : ((s[k].toNat : Int) == 46) = false := by rw [beq_eq_false_iff_ne]; omega
        have hne : ¬ (s[k].toNat = 46 ∧ q = none) := fun h => hp h.1
        rw [if_neg hne] at hsc
        clear hne hp
        cases cn : isDig s[k]
        · rw [cn] at hsc
          simp only [Bool.false_eq_true, if_false] at hsc
          have cd := isDig_no cn
          clear cn hqk
          exact absurd (hsc.trans HN.out) (by simp)
        · rw [cn] at hsc
          simp only [if_true] at hsc
          have HS := Lib.hid hsc
          obtain ⟨d1, d2⟩ := isDig_yes cn
          clear hsc cn
          have HQ := Lib.hid hqk
          clear hqk
          go_wp2
          go_round
          case rel => exact ⟨k + 1, q, by omega, rfl, by go_num, (fun j e => by have := HQ.out j e; omega), HS⟩
          case measure => simp [intOf]; omega
    · obtain rfl : k = s.size := by omega
      have hsc := HSC.out
      rw [List.drop_of_length_le (by simp)] at hsc
      simp only [scan] at hsc
      clear HSC
      obtain rfl : q = none := Option.some.inj (hsc.trans HN.out)
      clear hsc hqk
      simp only [pI]
      have HD := Lib.hid hD
      clear hD
      go_wp2
      go_loop [8, 9, 10, 11] (fun a c d i => ∃ (k : Nat) (n : Int) (g u : Bool), k ≤ s.size ∧ a = .int .i64 n ∧ c = .bool g ∧ d = .bool u ∧ i = .int .i64 k ∧ 0 ≤ n ∧ n ≤ 10000000000000 ∧ Hid (digs n g u (s.data.toList.drop k) = digs 0 false false s.data.toList)) (fun _ _ _ i => s.size - (intOf i).toNat)
      case atStart => exact ⟨0, 0, false, false, Nat.zero_le _, rfl, rfl, rfl, rfl, by omega, by omega, Lib.hid (by simp)⟩
      case round =>
        clear hk
        obtain ⟨k, n, g, u, hk, rfl, rfl, rfl, rfl, n0, n1, HK⟩ := hrel
        by_cases hlt : k < s.size
        · have hd := HK.out
          rw [drop_at s k hlt] at hd
          simp only [digs] at hd
          clear HK
          by_cases h46 : s[k].toNat = 46
          · rw [if_pos h46] at hd
            have HX := Lib.hid hd
            have c46 : ((s[k].toNat : Int) == 46) = true := by rw [beq_iff_eq]; omega
            clear hd h46
            go_wp2
            go_round
            case rel => exact ⟨k + 1, n, g, u, by omega, rfl, rfl, rfl, by go_num, by omega, by omega, HX⟩
            case measure => simp [intOf]; omega
          · rw [if_neg h46] at hd
            obtain ⟨d1, d2⟩ := isDig_yes ((HC.out k hlt).resolve_left h46)
            have c46 : ((s[k].toNat : Int) == 46) = false := by rw [beq_eq_false_iff_ne]; omega
            clear h46
            by_cases hov : 10000000000000 < 10 * n + ((s[k].toNat : Int) - 48)
            · rw [if_pos hov] at hd
              cases u
              · by_cases h8 : s[k].toNat = 48
                · have HX := Lib.hid (show digs 0 true false (s.data.toList.drop (k + 1)) = digs 0 false false s.data.toList by rw [← hd]; simp [h8])
                  have c8 : ((s[k].toNat : Int) == 48) = true := by rw [beq_iff_eq]; omega
                  have c9 : ((s[k].toNat : Int) != 48) = false := by simp [bne, c8]
                  clear hd h8
                  go_wp2
                  go_round
                  case rel => exact ⟨k + 1, 0, true, false, by omega, rfl, rfl, rfl, by go_num, by omega, by omega, HX⟩
                  case measure => simp [intOf]; omega
                · have HX := Lib.hid (show digs 0 true true (s.data.toList.drop (k + 1)) = digs 0 false false s.data.toList by rw [← hd]; simp [h8])
                  have c8 : ((s[k].toNat : Int) == 48) = false := by rw [beq_eq_false_iff_ne]; omega
                  have c9 : ((s[k].toNat : Int) != 48) = true := by simp [bne, c8]
                  clear hd h8
                  go_wp2
                  go_round
                  case rel => exact ⟨k + 1, 0, true, true, by omega, rfl, rfl, rfl, by go_num, by omega, by omega, HX⟩
                  case measure => simp [intOf]; omega
              · have HX := Lib.hid (show digs 0 true true (s.data.toList.drop (k + 1)) = digs 0 false false s.data.toList by rw [← hd]; simp)
                clear hd
                go_wp2
                go_round
                case rel => exact ⟨k + 1, 0, true, true, by omega, rfl, rfl, rfl, by go_num, by omega, by omega, HX⟩
                case measure => simp [intOf]; omega
            · rw [if_neg hov] at hd
              cases u
              · by_cases h8 : s[k].toNat = 48
                · have HX := Lib.hid (show digs (10 * n + ((s[k].toNat : Int) - 48)) g false (s.data.toList.drop (k + 1)) = digs 0 false false s.data.toList by rw [← hd]; simp [h8])
                  have c8 : ((s[k].toNat : Int) == 48) = true := by rw [beq_iff_eq]; omega
                  have c9 : ((s[k].toNat : Int) != 48) = false := by simp [bne, c8]
                  clear hd h8
                  go_wp2
                  go_round
                  case rel => exact ⟨k + 1, _, g, false, by omega, rfl, rfl, rfl, by go_num, by omega, by omega, HX⟩
                  case measure => simp [intOf]; omega
                · have HX := Lib.hid (show digs (10 * n + ((s[k].toNat : Int) - 48)) g true (s.data.toList.drop (k + 1)) = digs 0 false false s.data.toList by rw [← hd]; simp [h8])
                  have c8 : ((s[k].toNat : Int) == 48) = false := by rw [beq_eq_false_iff_ne]; omega
                  have c9 : ((s[k].toNat : Int) != 48) = true := by simp [bne, c8]
                  clear hd h8
                  go_wp2
                  go_round
                  case rel => exact ⟨k + 1, _, g, true, by omega, rfl, rfl, rfl, by go_num, by omega, by omega, HX⟩
                  case measure => simp [intOf]; omega
              · have HX := Lib.hid (show digs (10 * n + ((s[k].toNat : Int) - 48)) g true (s.data.toList.drop (k + 1)) = digs 0 false false s.data.toList by rw [← hd]; simp)
                clear hd
                go_wp2
                go_round
                case rel => exact ⟨k + 1, _, g, true, by omega, rfl, rfl, rfl, by go_num, by omega, by omega, HX⟩
                case measure => simp [intOf]; omega
        · obtain rfl : k = s.size := by omega
          have hd := HK.out
          rw [List.drop_of_length_le (by simp)] at hd
          simp only [digs] at hd
          have he := hd.trans HD.out
          simp only [Prod.mk.injEq] at he
          obtain ⟨e1, e2, e3⟩ := he
          clear hd HK
          subst e1 e2 e3
          clear HC HN HD
          cases g
          · by_cases hm : 100000000000 < (n * 100)
            · have HE := Lib.hid (show pEnd false (n * 100) false u = (0, 10) by simp [pEnd, hm])
              go_wp2
              go_ret2
              exact ⟨ret_pair HE.out, rfl⟩
            · have HE := Lib.hid (show pEnd false (n * 100) false u = ((n * 100), 0) by simp [pEnd, hm])
              go_wp2
              go_ret2
              exact ⟨ret_pair HE.out, rfl⟩
          · have HE := Lib.hid (show pEnd false (n * 100) true u = (0, 10) by simp [pEnd])
            go_wp2
            go_ret2
            exact ⟨ret_pair HE.out, rfl⟩

end Go.Proofs.YtjjeohnejhhacaaDoor
