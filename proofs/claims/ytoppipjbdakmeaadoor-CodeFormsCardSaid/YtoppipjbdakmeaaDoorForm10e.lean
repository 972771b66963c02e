/- CodeForms: the main walk, with a scheme, not alone (e). -/
import Derived.Test.YtoppipjbdakmeaaDoorFormA
namespace Go.Proofs.YtoppipjbdakmeaaDoor
open Go.RowKit Go.Shelf Go.Sort
set_option linter.unusedVariables false
set_option linter.unusedSimpArgs false
set_option maxHeartbeats 16000000 in
set_option maxRecDepth 100000 in
theorem forms_10e (s : Int) (kd : Int) (t B : ByteArray) (w : World) (D : Tab w) (s0 : 0 < s) (s9 : s ≤ 9) (cS : UInt8) (HcS : Hid (cS = UInt8.ofNat (79 + s.toNat))) (k0 : 0 ≤ kd) (k3 : kd ≤ 3) (hz : t.size ≤ 30) (hx : ((t.size : Int) % 2 == 1) = false)
    (hix : ∀ W, (Instr.index 44 (.agg #[.string (t ++ ⟨#[76]⟩), .string (⟨#[75]⟩ ++ t), .string (⟨#[68]⟩ ++ t), .string ⟨#[78, 84]⟩]) (.int .i64 kd)).run Tryd.prog W = .ok (.string B) W) (hB : B.data.toList = bodyF kd t.data.toList) (hBz : B.size ≤ 31) (hp0 : 0 < t.size) (h7 : t.size ≤ 6) (h1 : 1 < t.size) (H48 : Hid (t[0] ≠ 48)) :
    Calls Tryd.prog 4 #[.int .i64 s, .int .i64 kd, .string t] w fun e w' => e = .returned (.bool true) ∧ Below w.heap.size w w' := by
  have C0 := fun w D => codes_any w D
  have n1 : ¬ 9223372036854775807 < t.size + 1 := by omega
  have n2 : ¬ 9223372036854775807 < 1 + t.size := by omega
  have n3 : ¬ 9223372036854775807 < 1 + B.size := by omega
  have n4 : ¬ 9223372036854775807 < B.size + 1 := by omega
  have n5 : ¬ 9223372036854775807 < 1 + B.size + 1 := by omega
  have t1 : decide ((30 : Int) < t.size) = false := by simp; omega
  have u1 : decide (kd < 0) = false := by simp; omega
  have u2 : decide (3 < kd) = false := by simp; omega
  have t2 : decide (s < 0) = false := by simp; omega
  have t3 : decide (9 < s) = false := by simp; omega
  have hcv := conv_one s0 s9
  rw [← HcS.out] at hcv
  have hS : ∀ S : ByteArray, S = ⟨#[cS]⟩ ++ B → S.size ≤ 33 ∧ S.data.toList = preF s ++ (bodyF kd t.data.toList ++ sufF false) := by
    intro S hS
    subst hS
    constructor
    · simp only [ByteArray.size_append]
      have a1 : (⟨#[88]⟩ : ByteArray).size = 1 := rfl
      have a2 : (⟨#[cS]⟩ : ByteArray).size = 1 := rfl
      omega
    · rw [← hB]
      have hp : preF s = [cS] := (if_pos s0).trans (by rw [HcS.out])
      rw [hp]
      simp [preF, sufF, ByteArray.data_append]
  have hpf := fun q => par_form s kd false (l := t.data.toList) q (by omega) (by omega) k0 k3
  have HPF := Lib.hid hpf
  clear hpf hB
  go_enter Tryd.func4, Tryd.ntmps4
  go_wp2_with (fail)
  refine (C0 _ D).mono ?_
  rintro e w1 ⟨rfl, B1⟩
  have T1 := D.below B1
  have hcv1 := hcv w1
  have hN := below_new w1 (.cells #[.int .u8 (79 + s)] 5)
  have B2 := below_step B1 hN B1.size
  have T2 := T1.below hN
  clear hcv hN
  go_wp2_with (fail)
  obtain ⟨hSz, hSd⟩ := hS (⟨#[cS]⟩ ++ B) rfl
  clear hS
  generalize ⟨#[cS]⟩ ++ B = S at *
  clear hix C0 B1 T1 hBz n3 n4 n5
  generalize hw2 : (w1.alloc (.cells #[.int .u8 (79 + s)] 5)) = w2 at *
  clear hw2
  rw [← hSd] at HPF
  have HSD := Lib.hid hSd
  clear hSd
  have te := toList_some t hp0
  have v6 : decide ((t.size : Int) ≤ 6) = true := by simp; omega
  have v1 : ((t.size : Int) == 1) = false := by simp; omega
  have z0 : (0 : Int) < t.size := by omega
  have hv : ((t[0].toNat : Int) != 48) = true := by
    cases hq : ((t[0].toNat : Int) != 48)
    · exact absurd (byte_eq (c := t[0]) (d := 48) (by simpa using hq)) H48.out
    · rfl
  have HG := Lib.hid (numB_def t true (by have hh := head_of t hp0; rw [decide_eq_true hp0, decide_eq_true (show t.size ≤ 6 by omega), decide_eq_true (show 1 < t.size by omega), hh]; simp [H48.out]))
  go_wp2_with (fail)
  refine wp_region_quiet_below mixedF (by kernel_rfl) ?_
  repeat (go_big_quiet_step (fail))
  refine wpQuiet_nil ?_
  intro _ hw'
  obtain ⟨⟨dq, osq⟩, hw''⟩ := hw'
  subst hw''
  have hR := below_regrown w2 dq osq
  have B3 := below_step B2 hR B2.size
  have T3 := T2.below hR
  generalize grow (redrawn w2 dq) osq = w3 at *
  clear hR B2 T2
  go_wp2
  go_loop [82, 9, 10] (fun kk n g => ∃ (i : Nat) (N : Int) (G : Bool), i ≤ t.size ∧ kk = .int .i64 i ∧ n = .int .i64 N ∧ g = .bool G ∧ Hid (G = (true && (t.data.toList.take i).all isDg)) ∧ Hid (G = true → N = numG 0 (t.data.toList.take i)) ∧ 0 ≤ N ∧ N ≤ nbd i) (fun kk _ _ => t.size - (intOf kk).toNat)
  case atStart => exact ⟨0, 0, true, Nat.zero_le _, rfl, rfl, rfl, Lib.hid (by simp), Lib.hid (fun _ => rfl), Int.le_refl _, Int.le_refl _⟩
  case round =>
    obtain ⟨i, N, G, hi, rfl, rfl, rfl, HA, HN, hN0, hN1⟩ := hrel
    by_cases hlt : i < t.size
    · have hsn := all_snoc hlt
      have HSN := Lib.hid (num_snoc hlt)
      have hnm := nbd_mono i
      have htop := nbd_top i
      obtain ⟨c0, c9⟩ : 0 ≤ (t[i].toNat : Int) ∧ (t[i].toNat : Int) ≤ 255 := by have := t[i].toNat_lt; omega
      cases hd : isDg t[i]
      · have HE : Hid (false = (true && (t.data.toList.take (i + 1)).all isDg)) := Lib.hid (by rw [hsn, hd]; simp)
        have hno := isDg_no hd
        clear hsn hd
        rcases hno with q | q
        · go_wp2
          go_round
          case rel => exact ⟨i + 1, N, false, by omega, by go_num, rfl, rfl, HE, Lib.hid (fun h => by cases h), hN0, by omega⟩
          case measure => first | omega | (simp [intOf]; omega)
        · have q2 : ¬ (t[i].toNat : Int) < 48 := by omega
          go_wp2
          go_round
          case rel => exact ⟨i + 1, N, false, by omega, by go_num, rfl, rfl, HE, Lib.hid (fun h => by cases h), hN0, by omega⟩
          case measure => first | omega | (simp [intOf]; omega)
      · have HE : Hid (G = (true && (t.data.toList.take (i + 1)).all isDg)) := Lib.hid (by rw [hsn, hd, HA.out]; simp)
        obtain ⟨y0, y9⟩ := isDg_yes hd
        have q1 : ¬ (t[i].toNat : Int) < 48 := by omega
        have q2 : ¬ (57 : Int) < (t[i].toNat : Int) := by omega
        clear hsn hd
        by_cases h6 : i < 6
        · have h6' : (i : Int) < 6 := by omega
          have hst := nbd_step h6
          have HN2 : Hid (G = true → 10 * N + ((t[i].toNat : Int) - 48) = numG 0 (t.data.toList.take (i + 1))) := Lib.hid (fun h => by rw [HSN.out, HN.out h])
          go_wp2
          go_round
          case rel => exact ⟨i + 1, 10 * N + ((t[i].toNat : Int) - 48), G, by omega, by go_num, rfl, rfl, HE, HN2, by omega, by omega⟩
          case measure => first | omega | (simp [intOf]; omega)
        · exfalso; omega
    · obtain rfl : i = t.size := by omega
      have HNB : Hid (numB t.data.toList = G) := Lib.hid (by rw [HG.out, HA.out, take_all])
      have HNV : Hid (G = true → numG 0 t.data.toList = N) := Lib.hid (fun h => by rw [HN.out h, take_all])
      have htop := nbd_top t.size
      have hN9 : N ≤ 999999 := by omega
      clear HA HN HG htop hN1
      rcases (show kd = 0 ∨ kd = 1 ∨ kd = 2 ∨ kd = 3 by omega) with rfl | rfl | rfl | rfl
      · cases G
        · skip
          have HP : Hid (noAZ t.data.toList → parC S.data.toList = noC 5) := Lib.hid (fun hno => by
            rw [HPF.out hno]
            rw [if_neg (not_form (by decide) HNB.out)])
          clear HPF
          have K0 := cb_new w3 s 1 (1000 * N) (0) false 47
          have hNw := below_new w3 (.cells #[.int .i64 s, .int .i64 1, .int .i64 (1000 * N), .int .i64 (0), .bool false] 47)
          have B4 := below_step B3 hNw B3.size
          go_wp2
          go_loop [146] (fun kk => ∃ i : Nat, i ≤ t.size ∧ kk = .int .i64 i ∧ NoC t i) (fun kk => t.size - (intOf kk).toNat)
          case atStart => exact ⟨0, Nat.zero_le _, rfl, Lib.hid (by simp)⟩
          case round =>
            obtain ⟨i, hi, rfl, HC⟩ := hrel
            by_cases hlt : i < t.size
            · by_cases h65 : (65 : Int) ≤ (t[i].toNat : Int)
              · by_cases h90 : (t[i].toNat : Int) ≤ 90
                · go_wp2
                  go_ret
                  exact ⟨rfl, B4⟩
                · have HC2 := HC.next hlt (by omega)
                  go_wp2
                  go_round
                  case rel => exact ⟨i + 1, by omega, by go_num, HC2⟩
                  case measure => first | omega | (simp [intOf]; omega)
              · have HC2 := HC.next hlt (by omega)
                go_wp2
                go_round
                case rel => exact ⟨i + 1, by omega, by go_num, HC2⟩
                case measure => first | omega | (simp [intOf]; omega)
            · obtain rfl : i = t.size := by omega
              have hno := HC.all
              have hp := HP.out hno
              clear hno HC HP
              have p1 := fun w => parse_v S w (by omega) 0 0 0 0 5 false hp
              clear hp
              have q1 := fun W => eqc_yes 0 0 0 0 0 0 0 0 false false W (by simp)
              go_wp2_with (fail)
              refine (p1 _).mono ?_
              rintro e w5 ⟨rfl, hb⟩
              have B5 := below_step B4 hb B4.size
              go_wp2
              go_ret
              exact ⟨rfl, B5.alloc B5.size _⟩
        · skip
          by_cases h7 : 7 < s
          · have v7 : decide (7 < s) = true := by simpa using h7
            have HP : Hid (noAZ t.data.toList → parC S.data.toList = noC 5) := Lib.hid (fun hno => by
              rw [HPF.out hno]
              rw [if_neg (not_form7 h7)])
            clear HPF
            have K0 := cb_new w3 s 1 (1000 * N) (0) false 47
            have hNw := below_new w3 (.cells #[.int .i64 s, .int .i64 1, .int .i64 (1000 * N), .int .i64 (0), .bool false] 47)
            have B4 := below_step B3 hNw B3.size
            go_wp2
            go_loop [146] (fun kk => ∃ i : Nat, i ≤ t.size ∧ kk = .int .i64 i ∧ NoC t i) (fun kk => t.size - (intOf kk).toNat)
            case atStart => exact ⟨0, Nat.zero_le _, rfl, Lib.hid (by simp)⟩
            case round =>
              obtain ⟨i, hi, rfl, HC⟩ := hrel
              by_cases hlt : i < t.size
              · by_cases h65 : (65 : Int) ≤ (t[i].toNat : Int)
                · by_cases h90 : (t[i].toNat : Int) ≤ 90
                  · go_wp2
                    go_ret
                    exact ⟨rfl, B4⟩
                  · have HC2 := HC.next hlt (by omega)
                    go_wp2
                    go_round
                    case rel => exact ⟨i + 1, by omega, by go_num, HC2⟩
                    case measure => first | omega | (simp [intOf]; omega)
                · have HC2 := HC.next hlt (by omega)
                  go_wp2
                  go_round
                  case rel => exact ⟨i + 1, by omega, by go_num, HC2⟩
                  case measure => first | omega | (simp [intOf]; omega)
              · obtain rfl : i = t.size := by omega
                have hno := HC.all
                have hp := HP.out hno
                clear hno HC HP
                have p1 := fun w => parse_v S w (by omega) 0 0 0 0 5 false hp
                clear hp
                have q1 := fun W => eqc_yes 0 0 0 0 0 0 0 0 false false W (by simp)
                go_wp2_with (fail)
                refine (p1 _).mono ?_
                rintro e w5 ⟨rfl, hb⟩
                have B5 := below_step B4 hb B4.size
                go_wp2
                go_ret
                exact ⟨rfl, B5.alloc B5.size _⟩
          · have v7 : decide (7 < s) = false := by simpa using h7
            have HP : Hid (noAZ t.data.toList → parC S.data.toList = ⟨s, 1, 1000 * N, 0, false, 0⟩) := Lib.hid (fun hno => by
              rw [HPF.out hno]
              rw [if_pos (yes_form (show s ≤ 7 by omega) (.inr HNB.out)), if_neg (by decide), HNV.out (by simp)]
              exact mk1 s N false (by omega) (by omega) hN0 hN9)
            clear HPF
            have K0 := cb_new w3 s 1 (1000 * N) (0) false 47
            have hNw := below_new w3 (.cells #[.int .i64 s, .int .i64 1, .int .i64 (1000 * N), .int .i64 (0), .bool false] 47)
            have B4 := below_step B3 hNw B3.size
            go_wp2
            go_loop [146] (fun kk => ∃ i : Nat, i ≤ t.size ∧ kk = .int .i64 i ∧ NoC t i) (fun kk => t.size - (intOf kk).toNat)
            case atStart => exact ⟨0, Nat.zero_le _, rfl, Lib.hid (by simp)⟩
            case round =>
              obtain ⟨i, hi, rfl, HC⟩ := hrel
              by_cases hlt : i < t.size
              · by_cases h65 : (65 : Int) ≤ (t[i].toNat : Int)
                · by_cases h90 : (t[i].toNat : Int) ≤ 90
                  · go_wp2
                    go_ret
                    exact ⟨rfl, B4⟩
                  · have HC2 := HC.next hlt (by omega)
                    go_wp2
                    go_round
                    case rel => exact ⟨i + 1, by omega, by go_num, HC2⟩
                    case measure => first | omega | (simp [intOf]; omega)
                · have HC2 := HC.next hlt (by omega)
                  go_wp2
                  go_round
                  case rel => exact ⟨i + 1, by omega, by go_num, HC2⟩
                  case measure => first | omega | (simp [intOf]; omega)
              · obtain rfl : i = t.size := by omega
                have hno := HC.all
                have hp := HP.out hno
                clear hno HC HP
                have p1 := fun w => parse_v S w (by omega) s 1 (1000 * N) (0) 0 false hp
                clear hp
                have q1 := fun W => eqc_yes s 1 (1000 * N) (0) s 1 (1000 * N) (0) false false W (by simp)
                obtain ⟨g0, g1, g2, g3, g4⟩ := id K0.1
                go_wp2_with (fail)
                refine (p1 _).mono ?_
                rintro e w5 ⟨rfl, hb⟩
                have K1 := K0.step hb
                obtain ⟨d0, d1, d2, d3, d4⟩ := id K1.1
                have hlt5 := K1.2
                have hne5 : w3.heap.size ≠ w5.heap.size := by omega
                have B5 := below_step B4 hb B4.size
                have K2 := K1.step (below_new w5 (.cells #[.int .i64 s, .int .i64 1, .int .i64 (1000 * N), .int .i64 (0), .bool false] 47))
                obtain ⟨f0, f1, f2, f3, f4⟩ := id K2.1
                go_wp2
                go_ret
                exact ⟨rfl, B5.alloc B5.size _⟩
      · cases G
        · skip
          have HP : Hid (noAZ t.data.toList → parC S.data.toList = noC 5) := Lib.hid (fun hno => by
            rw [HPF.out hno]
            rw [if_neg (not_form (by decide) HNB.out)])
          clear HPF
          have K0 := cb_new w3 s 2 (1000 * N) (0) false 47
          have hNw := below_new w3 (.cells #[.int .i64 s, .int .i64 2, .int .i64 (1000 * N), .int .i64 (0), .bool false] 47)
          have B4 := below_step B3 hNw B3.size
          go_wp2
          go_loop [146] (fun kk => ∃ i : Nat, i ≤ t.size ∧ kk = .int .i64 i ∧ NoC t i) (fun kk => t.size - (intOf kk).toNat)
          case atStart => exact ⟨0, Nat.zero_le _, rfl, Lib.hid (by simp)⟩
          case round =>
            obtain ⟨i, hi, rfl, HC⟩ := hrel
            by_cases hlt : i < t.size
            · by_cases h65 : (65 : Int) ≤ (t[i].toNat : Int)
              · by_cases h90 : (t[i].toNat : Int) ≤ 90
                · go_wp2
                  go_ret
                  exact ⟨rfl, B4⟩
                · have HC2 := HC.next hlt (by omega)
                  go_wp2
                  go_round
                  case rel => exact ⟨i + 1, by omega, by go_num, HC2⟩
                  case measure => first | omega | (simp [intOf]; omega)
              · have HC2 := HC.next hlt (by omega)
                go_wp2
                go_round
                case rel => exact ⟨i + 1, by omega, by go_num, HC2⟩
                case measure => first | omega | (simp [intOf]; omega)
            · obtain rfl : i = t.size := by omega
              have hno := HC.all
              have hp := HP.out hno
              clear hno HC HP
              have p1 := fun w => parse_v S w (by omega) 0 0 0 0 5 false hp
              clear hp
              have q1 := fun W => eqc_yes 0 0 0 0 0 0 0 0 false false W (by simp)
              go_wp2_with (fail)
              refine (p1 _).mono ?_
              rintro e w5 ⟨rfl, hb⟩
              have B5 := below_step B4 hb B4.size
              go_wp2
              go_ret
              exact ⟨rfl, B5.alloc B5.size _⟩
        · skip
          by_cases hn0 : N = 0
          · subst hn0
            by_cases h7 : 7 < s
            · have v7 : decide (7 < s) = true := by simpa using h7
              have HP : Hid (noAZ t.data.toList → parC S.data.toList = noC 5) := Lib.hid (fun hno => by
                rw [HPF.out hno]
                rw [if_neg (not_form7 h7)])
              clear HPF
              have K0 := cb_new w3 s 2 (0) (0) false 47
              have hNw := below_new w3 (.cells #[.int .i64 s, .int .i64 2, .int .i64 (0), .int .i64 (0), .bool false] 47)
              have B4 := below_step B3 hNw B3.size
              go_wp2
              go_loop [146] (fun kk => ∃ i : Nat, i ≤ t.size ∧ kk = .int .i64 i ∧ NoC t i) (fun kk => t.size - (intOf kk).toNat)
              case atStart => exact ⟨0, Nat.zero_le _, rfl, Lib.hid (by simp)⟩
              case round =>
                obtain ⟨i, hi, rfl, HC⟩ := hrel
                by_cases hlt : i < t.size
                · by_cases h65 : (65 : Int) ≤ (t[i].toNat : Int)
                  · by_cases h90 : (t[i].toNat : Int) ≤ 90
                    · go_wp2
                      go_ret
                      exact ⟨rfl, B4⟩
                    · have HC2 := HC.next hlt (by omega)
                      go_wp2
                      go_round
                      case rel => exact ⟨i + 1, by omega, by go_num, HC2⟩
                      case measure => first | omega | (simp [intOf]; omega)
                  · have HC2 := HC.next hlt (by omega)
                    go_wp2
                    go_round
                    case rel => exact ⟨i + 1, by omega, by go_num, HC2⟩
                    case measure => first | omega | (simp [intOf]; omega)
                · obtain rfl : i = t.size := by omega
                  have hno := HC.all
                  have hp := HP.out hno
                  clear hno HC HP
                  have p1 := fun w => parse_v S w (by omega) 0 0 0 0 5 false hp
                  clear hp
                  have q1 := fun W => eqc_yes 0 0 0 0 0 0 0 0 false false W (by simp)
                  go_wp2_with (fail)
                  refine (p1 _).mono ?_
                  rintro e w5 ⟨rfl, hb⟩
                  have B5 := below_step B4 hb B4.size
                  go_wp2
                  go_ret
                  exact ⟨rfl, B5.alloc B5.size _⟩
            · have v7 : decide (7 < s) = false := by simpa using h7
              have HP : Hid (noAZ t.data.toList → parC S.data.toList = noC 80) := Lib.hid (fun hno => by
                rw [HPF.out hno]
                rw [if_pos (yes_form (show s ≤ 7 by omega) (.inr HNB.out)), if_neg (by decide), HNV.out (by simp)]
                exact mk2_no s false (by omega) (by omega))
              clear HPF
              have K0 := cb_new w3 s 2 (0) (0) false 47
              have hNw := below_new w3 (.cells #[.int .i64 s, .int .i64 2, .int .i64 (0), .int .i64 (0), .bool false] 47)
              have B4 := below_step B3 hNw B3.size
              go_wp2
              go_loop [146] (fun kk => ∃ i : Nat, i ≤ t.size ∧ kk = .int .i64 i ∧ NoC t i) (fun kk => t.size - (intOf kk).toNat)
              case atStart => exact ⟨0, Nat.zero_le _, rfl, Lib.hid (by simp)⟩
              case round =>
                obtain ⟨i, hi, rfl, HC⟩ := hrel
                by_cases hlt : i < t.size
                · by_cases h65 : (65 : Int) ≤ (t[i].toNat : Int)
                  · by_cases h90 : (t[i].toNat : Int) ≤ 90
                    · go_wp2
                      go_ret
                      exact ⟨rfl, B4⟩
                    · have HC2 := HC.next hlt (by omega)
                      go_wp2
                      go_round
                      case rel => exact ⟨i + 1, by omega, by go_num, HC2⟩
                      case measure => first | omega | (simp [intOf]; omega)
                  · have HC2 := HC.next hlt (by omega)
                    go_wp2
                    go_round
                    case rel => exact ⟨i + 1, by omega, by go_num, HC2⟩
                    case measure => first | omega | (simp [intOf]; omega)
                · obtain rfl : i = t.size := by omega
                  have hno := HC.all
                  have hp := HP.out hno
                  clear hno HC HP
                  have p1 := fun w => parse_v S w (by omega) 0 0 0 0 80 false hp
                  clear hp
                  have q1 := fun W => eqc_yes 0 0 0 0 0 0 0 0 false false W (by simp)
                  go_wp2_with (fail)
                  refine (p1 _).mono ?_
                  rintro e w5 ⟨rfl, hb⟩
                  have B5 := below_step B4 hb B4.size
                  go_wp2
                  go_ret
                  exact ⟨rfl, B5.alloc B5.size _⟩
          · have vn : (N == 0) = false := by simpa using hn0
            by_cases h7 : 7 < s
            · have v7 : decide (7 < s) = true := by simpa using h7
              have HP : Hid (noAZ t.data.toList → parC S.data.toList = noC 5) := Lib.hid (fun hno => by
                rw [HPF.out hno]
                rw [if_neg (not_form7 h7)])
              clear HPF
              have K0 := cb_new w3 s 2 (1000 * N) (0) false 47
              have hNw := below_new w3 (.cells #[.int .i64 s, .int .i64 2, .int .i64 (1000 * N), .int .i64 (0), .bool false] 47)
              have B4 := below_step B3 hNw B3.size
              go_wp2
              go_loop [146] (fun kk => ∃ i : Nat, i ≤ t.size ∧ kk = .int .i64 i ∧ NoC t i) (fun kk => t.size - (intOf kk).toNat)
              case atStart => exact ⟨0, Nat.zero_le _, rfl, Lib.hid (by simp)⟩
              case round =>
                obtain ⟨i, hi, rfl, HC⟩ := hrel
                by_cases hlt : i < t.size
                · by_cases h65 : (65 : Int) ≤ (t[i].toNat : Int)
                  · by_cases h90 : (t[i].toNat : Int) ≤ 90
                    · go_wp2
                      go_ret
                      exact ⟨rfl, B4⟩
                    · have HC2 := HC.next hlt (by omega)
                      go_wp2
                      go_round
                      case rel => exact ⟨i + 1, by omega, by go_num, HC2⟩
                      case measure => first | omega | (simp [intOf]; omega)
                  · have HC2 := HC.next hlt (by omega)
                    go_wp2
                    go_round
                    case rel => exact ⟨i + 1, by omega, by go_num, HC2⟩
                    case measure => first | omega | (simp [intOf]; omega)
                · obtain rfl : i = t.size := by omega
                  have hno := HC.all
                  have hp := HP.out hno
                  clear hno HC HP
                  have p1 := fun w => parse_v S w (by omega) 0 0 0 0 5 false hp
                  clear hp
                  have q1 := fun W => eqc_yes 0 0 0 0 0 0 0 0 false false W (by simp)
                  go_wp2_with (fail)
                  refine (p1 _).mono ?_
                  rintro e w5 ⟨rfl, hb⟩
                  have B5 := below_step B4 hb B4.size
                  go_wp2
                  go_ret
                  exact ⟨rfl, B5.alloc B5.size _⟩
            · have v7 : decide (7 < s) = false := by simpa using h7
              have HP : Hid (noAZ t.data.toList → parC S.data.toList = ⟨s, 2, 1000 * N, 0, false, 0⟩) := Lib.hid (fun hno => by
                rw [HPF.out hno]
                rw [if_pos (yes_form (show s ≤ 7 by omega) (.inr HNB.out)), if_neg (by decide), HNV.out (by simp)]
                exact mk2 s N false (by omega) (by omega) (by omega) hN9)
              clear HPF
              have K0 := cb_new w3 s 2 (1000 * N) (0) false 47
              have hNw := below_new w3 (.cells #[.int .i64 s, .int .i64 2, .int .i64 (1000 * N), .int .i64 (0), .bool false] 47)
              have B4 := below_step B3 hNw B3.size
              go_wp2
              go_loop [146] (fun kk => ∃ i : Nat, i ≤ t.size ∧ kk = .int .i64 i ∧ NoC t i) (fun kk => t.size - (intOf kk).toNat)
              case atStart => exact ⟨0, Nat.zero_le _, rfl, Lib.hid (by simp)⟩
              case round =>
                obtain ⟨i, hi, rfl, HC⟩ := hrel
                by_cases hlt : i < t.size
                · by_cases h65 : (65 : Int) ≤ (t[i].toNat : Int)
                  · by_cases h90 : (t[i].toNat : Int) ≤ 90
                    · go_wp2
                      go_ret
                      exact ⟨rfl, B4⟩
                    · have HC2 := HC.next hlt (by omega)
                      go_wp2
                      go_round
                      case rel => exact ⟨i + 1, by omega, by go_num, HC2⟩
                      case measure => first | omega | (simp [intOf]; omega)
                  · have HC2 := HC.next hlt (by omega)
                    go_wp2
                    go_round
                    case rel => exact ⟨i + 1, by omega, by go_num, HC2⟩
                    case measure => first | omega | (simp [intOf]; omega)
                · obtain rfl : i = t.size := by omega
                  have hno := HC.all
                  have hp := HP.out hno
                  clear hno HC HP
                  have p1 := fun w => parse_v S w (by omega) s 2 (1000 * N) (0) 0 false hp
                  clear hp
                  have q1 := fun W => eqc_yes s 2 (1000 * N) (0) s 2 (1000 * N) (0) false false W (by simp)
                  obtain ⟨g0, g1, g2, g3, g4⟩ := id K0.1
                  go_wp2_with (fail)
                  refine (p1 _).mono ?_
                  rintro e w5 ⟨rfl, hb⟩
                  have K1 := K0.step hb
                  obtain ⟨d0, d1, d2, d3, d4⟩ := id K1.1
                  have hlt5 := K1.2
                  have hne5 : w3.heap.size ≠ w5.heap.size := by omega
                  have B5 := below_step B4 hb B4.size
                  have K2 := K1.step (below_new w5 (.cells #[.int .i64 s, .int .i64 2, .int .i64 (1000 * N), .int .i64 (0), .bool false] 47))
                  obtain ⟨f0, f1, f2, f3, f4⟩ := id K2.1
                  go_wp2
                  go_ret
                  exact ⟨rfl, B5.alloc B5.size _⟩
      · cases G
        · skip
          have HP : Hid (noAZ t.data.toList → parC S.data.toList = noC 5) := Lib.hid (fun hno => by
            rw [HPF.out hno]
            rw [if_neg (not_form (by decide) HNB.out)])
          clear HPF
          have K0 := cb_new w3 s 3 (0) (N) false 47
          have hNw := below_new w3 (.cells #[.int .i64 s, .int .i64 3, .int .i64 (0), .int .i64 (N), .bool false] 47)
          have B4 := below_step B3 hNw B3.size
          go_wp2
          go_loop [146] (fun kk => ∃ i : Nat, i ≤ t.size ∧ kk = .int .i64 i ∧ NoC t i) (fun kk => t.size - (intOf kk).toNat)
          case atStart => exact ⟨0, Nat.zero_le _, rfl, Lib.hid (by simp)⟩
          case round =>
            obtain ⟨i, hi, rfl, HC⟩ := hrel
            by_cases hlt : i < t.size
            · by_cases h65 : (65 : Int) ≤ (t[i].toNat : Int)
              · by_cases h90 : (t[i].toNat : Int) ≤ 90
                · go_wp2
                  go_ret
                  exact ⟨rfl, B4⟩
                · have HC2 := HC.next hlt (by omega)
                  go_wp2
                  go_round
                  case rel => exact ⟨i + 1, by omega, by go_num, HC2⟩
                  case measure => first | omega | (simp [intOf]; omega)
              · have HC2 := HC.next hlt (by omega)
                go_wp2
                go_round
                case rel => exact ⟨i + 1, by omega, by go_num, HC2⟩
                case measure => first | omega | (simp [intOf]; omega)
            · obtain rfl : i = t.size := by omega
              have hno := HC.all
              have hp := HP.out hno
              clear hno HC HP
              have p1 := fun w => parse_v S w (by omega) 0 0 0 0 5 false hp
              clear hp
              have q1 := fun W => eqc_yes 0 0 0 0 0 0 0 0 false false W (by simp)
              go_wp2_with (fail)
              refine (p1 _).mono ?_
              rintro e w5 ⟨rfl, hb⟩
              have B5 := below_step B4 hb B4.size
              go_wp2
              go_ret
              exact ⟨rfl, B5.alloc B5.size _⟩
        · skip
          by_cases hn7 : 7 < N
          · have vn : decide (7 < N) = true := by simpa using hn7
            by_cases h7 : 7 < s
            · have v7 : decide (7 < s) = true := by simpa using h7
              have HP : Hid (noAZ t.data.toList → parC S.data.toList = noC 5) := Lib.hid (fun hno => by
                rw [HPF.out hno]
                rw [if_neg (not_form7 h7)])
              clear HPF
              have K0 := cb_new w3 s 3 (0) (N) false 47
              have hNw := below_new w3 (.cells #[.int .i64 s, .int .i64 3, .int .i64 (0), .int .i64 (N), .bool false] 47)
              have B4 := below_step B3 hNw B3.size
              go_wp2
              go_loop [146] (fun kk => ∃ i : Nat, i ≤ t.size ∧ kk = .int .i64 i ∧ NoC t i) (fun kk => t.size - (intOf kk).toNat)
              case atStart => exact ⟨0, Nat.zero_le _, rfl, Lib.hid (by simp)⟩
              case round =>
                obtain ⟨i, hi, rfl, HC⟩ := hrel
                by_cases hlt : i < t.size
                · by_cases h65 : (65 : Int) ≤ (t[i].toNat : Int)
                  · by_cases h90 : (t[i].toNat : Int) ≤ 90
                    · go_wp2
                      go_ret
                      exact ⟨rfl, B4⟩
                    · have HC2 := HC.next hlt (by omega)
                      go_wp2
                      go_round
                      case rel => exact ⟨i + 1, by omega, by go_num, HC2⟩
                      case measure => first | omega | (simp [intOf]; omega)
                  · have HC2 := HC.next hlt (by omega)
                    go_wp2
                    go_round
                    case rel => exact ⟨i + 1, by omega, by go_num, HC2⟩
                    case measure => first | omega | (simp [intOf]; omega)
                · obtain rfl : i = t.size := by omega
                  have hno := HC.all
                  have hp := HP.out hno
                  clear hno HC HP
                  have p1 := fun w => parse_v S w (by omega) 0 0 0 0 5 false hp
                  clear hp
                  have q1 := fun W => eqc_yes 0 0 0 0 0 0 0 0 false false W (by simp)
                  go_wp2_with (fail)
                  refine (p1 _).mono ?_
                  rintro e w5 ⟨rfl, hb⟩
                  have B5 := below_step B4 hb B4.size
                  go_wp2
                  go_ret
                  exact ⟨rfl, B5.alloc B5.size _⟩
            · have v7 : decide (7 < s) = false := by simpa using h7
              have HP : Hid (noAZ t.data.toList → parC S.data.toList = noC 80) := Lib.hid (fun hno => by
                rw [HPF.out hno]
                rw [if_pos (yes_form (show s ≤ 7 by omega) (.inr HNB.out)), if_neg (by decide), HNV.out (by simp)]
                exact mk3_no s N false (by omega) (by omega) hn7)
              clear HPF
              have K0 := cb_new w3 s 3 (0) (N) false 47
              have hNw := below_new w3 (.cells #[.int .i64 s, .int .i64 3, .int .i64 (0), .int .i64 (N), .bool false] 47)
              have B4 := below_step B3 hNw B3.size
              go_wp2
              go_loop [146] (fun kk => ∃ i : Nat, i ≤ t.size ∧ kk = .int .i64 i ∧ NoC t i) (fun kk => t.size - (intOf kk).toNat)
              case atStart => exact ⟨0, Nat.zero_le _, rfl, Lib.hid (by simp)⟩
              case round =>
                obtain ⟨i, hi, rfl, HC⟩ := hrel
                by_cases hlt : i < t.size
                · by_cases h65 : (65 : Int) ≤ (t[i].toNat : Int)
                  · by_cases h90 : (t[i].toNat : Int) ≤ 90
                    · go_wp2
                      go_ret
                      exact ⟨rfl, B4⟩
                    · have HC2 := HC.next hlt (by omega)
                      go_wp2
                      go_round
                      case rel => exact ⟨i + 1, by omega, by go_num, HC2⟩
                      case measure => first | omega | (simp [intOf]; omega)
                  · have HC2 := HC.next hlt (by omega)
                    go_wp2
                    go_round
                    case rel => exact ⟨i + 1, by omega, by go_num, HC2⟩
                    case measure => first | omega | (simp [intOf]; omega)
                · obtain rfl : i = t.size := by omega
                  have hno := HC.all
                  have hp := HP.out hno
                  clear hno HC HP
                  have p1 := fun w => parse_v S w (by omega) 0 0 0 0 80 false hp
                  clear hp
                  have q1 := fun W => eqc_yes 0 0 0 0 0 0 0 0 false false W (by simp)
                  go_wp2_with (fail)
                  refine (p1 _).mono ?_
                  rintro e w5 ⟨rfl, hb⟩
                  have B5 := below_step B4 hb B4.size
                  go_wp2
                  go_ret
                  exact ⟨rfl, B5.alloc B5.size _⟩
          · have vn : decide (7 < N) = false := by simpa using hn7
            by_cases h7 : 7 < s
            · have v7 : decide (7 < s) = true := by simpa using h7
              have HP : Hid (noAZ t.data.toList → parC S.data.toList = noC 5) := Lib.hid (fun hno => by
                rw [HPF.out hno]
                rw [if_neg (not_form7 h7)])
              clear HPF
              have K0 := cb_new w3 s 3 (0) (N) false 47
              have hNw := below_new w3 (.cells #[.int .i64 s, .int .i64 3, .int .i64 (0), .int .i64 (N), .bool false] 47)
              have B4 := below_step B3 hNw B3.size
              go_wp2
              go_loop [146] (fun kk => ∃ i : Nat, i ≤ t.size ∧ kk = .int .i64 i ∧ NoC t i) (fun kk => t.size - (intOf kk).toNat)
              case atStart => exact ⟨0, Nat.zero_le _, rfl, Lib.hid (by simp)⟩
              case round =>
                obtain ⟨i, hi, rfl, HC⟩ := hrel
                by_cases hlt : i < t.size
                · by_cases h65 : (65 : Int) ≤ (t[i].toNat : Int)
                  · by_cases h90 : (t[i].toNat : Int) ≤ 90
                    · go_wp2
                      go_ret
                      exact ⟨rfl, B4⟩
                    · have HC2 := HC.next hlt (by omega)
                      go_wp2
                      go_round
                      case rel => exact ⟨i + 1, by omega, by go_num, HC2⟩
                      case measure => first | omega | (simp [intOf]; omega)
                  · have HC2 := HC.next hlt (by omega)
                    go_wp2
                    go_round
                    case rel => exact ⟨i + 1, by omega, by go_num, HC2⟩
                    case measure => first | omega | (simp [intOf]; omega)
                · obtain rfl : i = t.size := by omega
                  have hno := HC.all
                  have hp := HP.out hno
                  clear hno HC HP
                  have p1 := fun w => parse_v S w (by omega) 0 0 0 0 5 false hp
                  clear hp
                  have q1 := fun W => eqc_yes 0 0 0 0 0 0 0 0 false false W (by simp)
                  go_wp2_with (fail)
                  refine (p1 _).mono ?_
                  rintro e w5 ⟨rfl, hb⟩
                  have B5 := below_step B4 hb B4.size
                  go_wp2
                  go_ret
                  exact ⟨rfl, B5.alloc B5.size _⟩
            · have v7 : decide (7 < s) = false := by simpa using h7
              have HP : Hid (noAZ t.data.toList → parC S.data.toList = ⟨s, 3, 0, N, false, 0⟩) := Lib.hid (fun hno => by
                rw [HPF.out hno]
                rw [if_pos (yes_form (show s ≤ 7 by omega) (.inr HNB.out)), if_neg (by decide), HNV.out (by simp)]
                exact mk3 s N false (by omega) (by omega) hN0 (by omega))
              clear HPF
              have K0 := cb_new w3 s 3 (0) (N) false 47
              have hNw := below_new w3 (.cells #[.int .i64 s, .int .i64 3, .int .i64 (0), .int .i64 (N), .bool false] 47)
              have B4 := below_step B3 hNw B3.size
              go_wp2
              go_loop [146] (fun kk => ∃ i : Nat, i ≤ t.size ∧ kk = .int .i64 i ∧ NoC t i) (fun kk => t.size - (intOf kk).toNat)
              case atStart => exact ⟨0, Nat.zero_le _, rfl, Lib.hid (by simp)⟩
              case round =>
                obtain ⟨i, hi, rfl, HC⟩ := hrel
                by_cases hlt : i < t.size
                · by_cases h65 : (65 : Int) ≤ (t[i].toNat : Int)
                  · by_cases h90 : (t[i].toNat : Int) ≤ 90
                    · go_wp2
                      go_ret
                      exact ⟨rfl, B4⟩
                    · have HC2 := HC.next hlt (by omega)
                      go_wp2
                      go_round
                      case rel => exact ⟨i + 1, by omega, by go_num, HC2⟩
                      case measure => first | omega | (simp [intOf]; omega)
                  · have HC2 := HC.next hlt (by omega)
                    go_wp2
                    go_round
                    case rel => exact ⟨i + 1, by omega, by go_num, HC2⟩
                    case measure => first | omega | (simp [intOf]; omega)
                · obtain rfl : i = t.size := by omega
                  have hno := HC.all
                  have hp := HP.out hno
                  clear hno HC HP
                  have p1 := fun w => parse_v S w (by omega) s 3 (0) (N) 0 false hp
                  clear hp
                  have q1 := fun W => eqc_yes s 3 (0) (N) s 3 (0) (N) false false W (by simp)
                  obtain ⟨g0, g1, g2, g3, g4⟩ := id K0.1
                  go_wp2_with (fail)
                  refine (p1 _).mono ?_
                  rintro e w5 ⟨rfl, hb⟩
                  have K1 := K0.step hb
                  obtain ⟨d0, d1, d2, d3, d4⟩ := id K1.1
                  have hlt5 := K1.2
                  have hne5 : w3.heap.size ≠ w5.heap.size := by omega
                  have B5 := below_step B4 hb B4.size
                  have K2 := K1.step (below_new w5 (.cells #[.int .i64 s, .int .i64 3, .int .i64 (0), .int .i64 (N), .bool false] 47))
                  obtain ⟨f0, f1, f2, f3, f4⟩ := id K2.1
                  go_wp2
                  go_ret
                  exact ⟨rfl, B5.alloc B5.size _⟩
      · skip
        by_cases h7 : 7 < s
        · have v7 : decide (7 < s) = true := by simpa using h7
          have HP : Hid (noAZ t.data.toList → parC S.data.toList = noC 5) := Lib.hid (fun hno => by
            rw [HPF.out hno]
            rw [if_neg (not_form7 h7)])
          clear HPF
          have K0 := cb_new w3 s 4 (0) (0) false 47
          have hNw := below_new w3 (.cells #[.int .i64 s, .int .i64 4, .int .i64 (0), .int .i64 (0), .bool false] 47)
          have B4 := below_step B3 hNw B3.size
          go_wp2
          go_loop [146] (fun kk => ∃ i : Nat, i ≤ t.size ∧ kk = .int .i64 i ∧ NoC t i) (fun kk => t.size - (intOf kk).toNat)
          case atStart => exact ⟨0, Nat.zero_le _, rfl, Lib.hid (by simp)⟩
          case round =>
            obtain ⟨i, hi, rfl, HC⟩ := hrel
            by_cases hlt : i < t.size
            · by_cases h65 : (65 : Int) ≤ (t[i].toNat : Int)
              · by_cases h90 : (t[i].toNat : Int) ≤ 90
                · go_wp2
                  go_ret
                  exact ⟨rfl, B4⟩
                · have HC2 := HC.next hlt (by omega)
                  go_wp2
                  go_round
                  case rel => exact ⟨i + 1, by omega, by go_num, HC2⟩
                  case measure => first | omega | (simp [intOf]; omega)
              · have HC2 := HC.next hlt (by omega)
                go_wp2
                go_round
                case rel => exact ⟨i + 1, by omega, by go_num, HC2⟩
                case measure => first | omega | (simp [intOf]; omega)
            · obtain rfl : i = t.size := by omega
              have hno := HC.all
              have hp := HP.out hno
              clear hno HC HP
              have p1 := fun w => parse_v S w (by omega) 0 0 0 0 5 false hp
              clear hp
              have q1 := fun W => eqc_yes 0 0 0 0 0 0 0 0 false false W (by simp)
              go_wp2_with (fail)
              refine (p1 _).mono ?_
              rintro e w5 ⟨rfl, hb⟩
              have B5 := below_step B4 hb B4.size
              go_wp2
              go_ret
              exact ⟨rfl, B5.alloc B5.size _⟩
        · have v7 : decide (7 < s) = false := by simpa using h7
          have HP : Hid (noAZ t.data.toList → parC S.data.toList = ⟨s, 4, 0, 0, false, 0⟩) := Lib.hid (fun hno => by
            rw [HPF.out hno]
            rw [if_pos (yes_form (show s ≤ 7 by omega) (.inl rfl))]
            exact mk4 s false (by omega) (by omega))
          clear HPF
          have K0 := cb_new w3 s 4 (0) (0) false 47
          have hNw := below_new w3 (.cells #[.int .i64 s, .int .i64 4, .int .i64 (0), .int .i64 (0), .bool false] 47)
          have B4 := below_step B3 hNw B3.size
          go_wp2
          go_loop [146] (fun kk => ∃ i : Nat, i ≤ t.size ∧ kk = .int .i64 i ∧ NoC t i) (fun kk => t.size - (intOf kk).toNat)
          case atStart => exact ⟨0, Nat.zero_le _, rfl, Lib.hid (by simp)⟩
          case round =>
            obtain ⟨i, hi, rfl, HC⟩ := hrel
            by_cases hlt : i < t.size
            · by_cases h65 : (65 : Int) ≤ (t[i].toNat : Int)
              · by_cases h90 : (t[i].toNat : Int) ≤ 90
                · go_wp2
                  go_ret
                  exact ⟨rfl, B4⟩
                · have HC2 := HC.next hlt (by omega)
                  go_wp2
                  go_round
                  case rel => exact ⟨i + 1, by omega, by go_num, HC2⟩
                  case measure => first | omega | (simp [intOf]; omega)
              · have HC2 := HC.next hlt (by omega)
                go_wp2
                go_round
                case rel => exact ⟨i + 1, by omega, by go_num, HC2⟩
                case measure => first | omega | (simp [intOf]; omega)
            · obtain rfl : i = t.size := by omega
              have hno := HC.all
              have hp := HP.out hno
              clear hno HC HP
              have p1 := fun w => parse_v S w (by omega) s 4 (0) (0) 0 false hp
              clear hp
              have q1 := fun W => eqc_yes s 4 (0) (0) s 4 (0) (0) false false W (by simp)
              obtain ⟨g0, g1, g2, g3, g4⟩ := id K0.1
              go_wp2_with (fail)
              refine (p1 _).mono ?_
              rintro e w5 ⟨rfl, hb⟩
              have K1 := K0.step hb
              obtain ⟨d0, d1, d2, d3, d4⟩ := id K1.1
              have hlt5 := K1.2
              have hne5 : w3.heap.size ≠ w5.heap.size := by omega
              have B5 := below_step B4 hb B4.size
              have K2 := K1.step (below_new w5 (.cells #[.int .i64 s, .int .i64 4, .int .i64 (0), .int .i64 (0), .bool false] 47))
              obtain ⟨f0, f1, f2, f3, f4⟩ := id K2.1
              go_wp2
              go_ret
              exact ⟨rfl, B5.alloc B5.size _⟩
end Go.Proofs.YtoppipjbdakmeaaDoor
