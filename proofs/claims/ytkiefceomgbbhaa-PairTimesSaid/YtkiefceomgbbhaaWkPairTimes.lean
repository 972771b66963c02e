/- The walk of the law PairTimes. -/
import Derived.Test.YtkiefceomgbbhaaPairE
namespace Go.Proofs.Ytkiefceomgbbhaa
open Go.RowKit Go.Sort
set_option linter.unusedVariables false

theorem order_00t : FloatKind.f64.format.order 0 0 = some .eq := order_eq (is_zero false) (is_zero false) rfl
theorem wi_abs {x n : Int} (hx : x ≠ 0) (hn : n ≠ 0) (u v : Int) (hu : u = x.natAbs) (hv : v = n.natAbs) : decide (u ≤ 9007199254740992 / v) = wiB x n := by
  have h : u ≤ 9007199254740992 / v ↔ (x * n).natAbs ≤ 9007199254740992 := by
    rw [Int.le_ediv_iff_mul_le (by omega), hu, hv, Int.natAbs_mul]
    rw [← Int.natCast_mul]
    omega
  cases hw : wiB x n
  · simp only [decide_eq_false_iff_not, h]
    intro hc
    rw [wi_of hc] at hw
    cases hw
  · simp only [decide_eq_true_eq, h]
    exact wi_mul hw
theorem tdiv_neg_n {n : Int} (h : n < 0) : wrap64 (-Int.tdiv 9007199254740992 n) = 9007199254740992 / -n := by
  have e : -Int.tdiv 9007199254740992 n = 9007199254740992 / -n := by
    rw [← Int.tdiv_neg, Int.tdiv_eq_ediv_of_nonneg (by omega)]
  rw [e]
  have h1 : 0 ≤ 9007199254740992 / -n := Int.ediv_nonneg (by omega) (by omega)
  have h2 : 9007199254740992 / -n ≤ 9007199254740992 := Int.ediv_le_self _ (by omega)
  exact IntWalk.wrap64_in _ (by omega)
theorem wi_zero_x (n : Int) : wiB 0 n = true := by simp [wiB]
theorem wi_zero_n (x : Int) : wiB x 0 = true := by simp [wiB]
/-- may it be, behind so many of the two sides? -/
def mys (a b n : Int) (i : Nat) : Bool := if i = 0 then sdB n else if i = 1 then sdB n && wiB a n else sdB n && wiB a n && wiB b n
set_option maxHeartbeats 8000000 in
set_option maxRecDepth 100000 in
theorem wPairTimes (a b n : Int) (w : World) (ha : -9223372036854775808 ≤ a) (ha' : a ≤ 9223372036854775807) (hb : -9223372036854775808 ≤ b) (hb' : b ≤ 9223372036854775807) (hn : -9223372036854775808 ≤ n) (hn' : n ≤ 9223372036854775807) :
    Calls Try.prog 11 #[.int .i64 a, .int .i64 b, .int .i64 n] w fun e w' => e = .returned (.bool true) ∧ Below w.heap.size w w' := by
  have sm := both_any w
  have o0 := order_00t
  cases hab : sdB a && sdB b
  · have c1 := of_bad2 a b hab
    clear hab
    go_enter Try.func11, Try.ntmps11
    go_wp2_with (fail)
    with_reducible refine (sm).mono ?_
    rintro e w1 ⟨rfl, d1⟩
    have hb1 := d1
    go_wp2_with (fail)
    with_reducible refine (c1 _).mono ?_
    rintro e w' ⟨rfl, rfl⟩
    go_wp2
    go_ret
    exact ⟨rfl, hb1⟩
  · obtain ⟨h1, h2⟩ := Bool.and_eq_true_iff.1 hab
    have c1 := of_ok2 a b h1 h2
    have s1 := sdB_yes h1
    have s2 := sdB_yes h2
    have i1 := of_is a (by omega)
    have i2 := of_is b (by omega)
    generalize floatOfInt .f64 a = pa at *
    generalize floatOfInt .f64 b = pb at *
    have key : (sdB n && wiB a n && wiB b n) = false ∧ (∀ W, Calls Try.prog 40 #[.complex .f64 pa pb, .int .i64 n] W fun e w' => e = .returned (.tuple #[.complex .f64 0 0, .int .i64 10]) ∧ W = w') ∨
        (sdB n && wiB a n && wiB b n) = true ∧ ∃ qx qy, (∀ W, Calls Try.prog 40 #[.complex .f64 pa pb, .int .i64 n] W fun e w' => e = .returned (.tuple #[.complex .f64 qx qy, .int .i64 0]) ∧ W = w') ∧ (∀ W, Calls Try.prog 32 #[.complex .f64 qx qy] W fun e w' => e = .returned (.tuple #[.int .i64 (a * n), .int .i64 (b * n), .int .i64 0]) ∧ W = w') ∧ -9007199254740992 ≤ a * n ∧ a * n ≤ 9007199254740992 ∧ -9007199254740992 ≤ b * n ∧ b * n ≤ 9007199254740992 := by
      cases hm : sdB n && wiB a n && wiB b n
      · exact .inl ⟨rfl, times_bad pa pb a b n i1 i2 h1 h2 hn hn' hm⟩
      · simp only [Bool.and_eq_true] at hm
        have m1 := wi_mul hm.1.2
        have m2 := wi_mul hm.2
        exact .inr ⟨rfl, _, _, times_ok pa pb a b n i1 i2 h1 h2 hm.1.1 hm.1.2 hm.2, sides_ok _ _ _ _ (of_is _ (by omega)) (of_is _ (by omega)) (sdB_mk (by omega) (by omega)) (sdB_mk (by omega) (by omega)), by omega⟩
    have ix0 : ∀ w, (Instr.index 59 (.agg #[.int .i64 a, .int .i64 b]) (.int .i64 0)).run Try.prog w = .ok (.int .i64 a) w := fun _ => by kernel_rfl
    have ix1 : ∀ w, (Instr.index 59 (.agg #[.int .i64 a, .int .i64 b]) (.int .i64 1)).run Try.prog w = .ok (.int .i64 b) w := fun _ => by kernel_rfl
    obtain ⟨a1, a2⟩ := s1
    obtain ⟨b1, b2⟩ := s2
    have hsn : sdB n = (decide (-9007199254740992 ≤ n) && decide (n ≤ 9007199254740992)) := by simp [sdB]
    have HSN := Lib.hid hsn
    have hnc : (decide (-9007199254740992 ≤ n) = true ∧ decide (n ≤ 9007199254740992) = true) ∨ (decide (-9007199254740992 ≤ n) = true ∧ decide (n ≤ 9007199254740992) = false) ∨ decide (-9007199254740992 ≤ n) = false := by
      cases decide (-9007199254740992 ≤ n) <;> cases decide (n ≤ 9007199254740992) <;> simp
    have rnd : ∀ x : Int, -9007199254740992 ≤ x → x ≤ 9007199254740992 → True := fun _ _ _ => trivial
    have HKEY := Lib.hid key
    clear hab h1 h2 i1 i2 hsn rnd key
    have main : ∀ (cT : Array Value → Array Value → Prop), True := fun _ => trivial
    clear main
    rcases HKEY.out with ⟨km, cT⟩ | ⟨km, qx, qy, cT, cS, m1, m2, m3, m4⟩
    · have KM := Lib.hid km
      clear km HKEY
      rcases hnc with ⟨n1, n2⟩ | ⟨n1, n2⟩ | n1
      · skip
        go_enter Try.func11, Try.ntmps11
        go_wp2_with (fail)
        with_reducible refine (sm).mono ?_
        rintro e w1 ⟨rfl, d1⟩
        have hb1 := d1
        go_wp2_with (fail)
        with_reducible refine (c1 _).mono ?_
        rintro e w' ⟨rfl, rfl⟩
        go_wp2_with (fail)
        with_reducible refine (cT _).mono ?_
        rintro e w' ⟨rfl, rfl⟩
        go_wp2
        go_loop [11, 45] (fun m v => ∃ i : Nat, i ≤ 2 ∧ v = .int .i64 i ∧ m = .bool (mys a b n i)) (fun _ v => 2 - (intOf v).toNat)
        case atStart => exact ⟨0, by omega, rfl, by simp only [mys, if_pos]; rw [HSN.out, n1, n2]; rfl⟩
        case round =>
        obtain ⟨i, hi, rfl, rfl⟩ := hrel
        have hcs : i = 0 ∨ i = 1 ∨ ¬ i < 2 := by omega
        rcases hcs with rfl | rfl | hlt
        · skip
          have hstep : mys a b n 1 = (mys a b n 0 && wiB a n) := by simp [mys]
          have HST := Lib.hid hstep
          clear hstep
          cases hmy : mys a b n 0
          · rw [hmy] at HST
            clear hmy
            go_wp2
            go_round
            case rel => exact ⟨1, by omega, rfl, by rw [HST.out]; rfl⟩
            case measure => first | omega | (simp [intOf]; done) | (simp [intOf]; omega)
          · rw [hmy] at HST
            clear hmy
            by_cases x0 : a = 0
            · have t1 : (a != 0) = false := by simp [x0]
              have hw : wiB a n = true := by rw [x0]; exact wi_zero_x n
              have HW := Lib.hid hw
              clear hw x0
              go_wp2
              go_round
              case rel => exact ⟨1, by omega, rfl, by rw [HST.out, HW.out]; rfl⟩
              case measure => first | omega | (simp [intOf]; done) | (simp [intOf]; omega)
            · have t1 : (a != 0) = true := by simpa using x0
              by_cases n0 : n = 0
              · have t2 : (n != 0) = false := by simp [n0]
                have hw : wiB a n = true := by rw [n0]; exact wi_zero_n _
                have HW := Lib.hid hw
                clear hw n0 x0
                go_wp2
                go_round
                case rel => exact ⟨1, by omega, rfl, by rw [HST.out, HW.out]; rfl⟩
                case measure => first | omega | (simp [intOf]; done) | (simp [intOf]; omega)
              · have t2 : (n != 0) = true := by simpa using n0
                have sx : (0 < a ∧ ((a.natAbs : Nat) : Int) = a) ∨ (a < 0 ∧ ((a.natAbs : Nat) : Int) = -a) := by omega
                have sn : (0 < n ∧ ((n.natAbs : Nat) : Int) = n) ∨ (n < 0 ∧ ((n.natAbs : Nat) : Int) = -n) := by omega
                have nn1 : -9007199254740992 ≤ n := by simpa using n1
                have nn2 : n ≤ 9007199254740992 := by simpa using n2
                rcases sx with ⟨sx1, sx2⟩ | ⟨sx1, sx2⟩ <;> rcases sn with ⟨sn1, sn2⟩ | ⟨sn1, sn2⟩
                · have hw := wi_abs x0 n0 (a) (n) sx2.symm sn2.symm
                  have HW := Lib.hid hw
                  have hdp : 1 ≤ n := by omega
                  have hd0 : ((n) == 0) = false := by simp; omega
                  clear hw x0 n0 sx2 sn2
                  go_wp2
                  go_round
                  case rel => exact ⟨1, by omega, rfl, by rw [HST.out, ← HW.out]; first | rfl | (rw [if_neg (by omega)]; rfl)⟩
                  case measure => first | omega | (simp [intOf]; done) | (simp [intOf]; omega)
                · have hw := wi_abs x0 n0 (a) (-n) sx2.symm sn2.symm
                  have HW := Lib.hid hw
                  have hdp : 1 ≤ (-n) := by omega
                  have hd0 : ((-n) == 0) = false := by simp; omega
                  clear hw x0 n0 sx2 sn2
                  go_wp2
                  go_round
                  case rel => exact ⟨1, by omega, rfl, by rw [HST.out, ← HW.out]; first | rfl | (rw [tdiv_neg_n sn1]; rfl) | (rw [if_pos (by omega)]; rfl) | (rw [if_pos (by omega), tdiv_neg_n sn1]; rfl)⟩
                  case measure => first | omega | (simp [intOf]; done) | (simp [intOf]; omega)
                · have hw := wi_abs x0 n0 (-a) (n) sx2.symm sn2.symm
                  have HW := Lib.hid hw
                  have hdp : 1 ≤ n := by omega
                  have hd0 : ((n) == 0) = false := by simp; omega
                  clear hw x0 n0 sx2 sn2
                  go_wp2
                  go_round
                  case rel => exact ⟨1, by omega, rfl, by rw [HST.out, ← HW.out]; first | rfl | (rw [if_neg (by omega)]; rfl)⟩
                  case measure => first | omega | (simp [intOf]; done) | (simp [intOf]; omega)
                · have hw := wi_abs x0 n0 (-a) (-n) sx2.symm sn2.symm
                  have HW := Lib.hid hw
                  have hdp : 1 ≤ (-n) := by omega
                  have hd0 : ((-n) == 0) = false := by simp; omega
                  clear hw x0 n0 sx2 sn2
                  go_wp2
                  go_round
                  case rel => exact ⟨1, by omega, rfl, by rw [HST.out, ← HW.out]; first | rfl | (rw [tdiv_neg_n sn1]; rfl) | (rw [if_pos (by omega)]; rfl) | (rw [if_pos (by omega), tdiv_neg_n sn1]; rfl)⟩
                  case measure => first | omega | (simp [intOf]; done) | (simp [intOf]; omega)
        · skip
          have hstep : mys a b n 2 = (mys a b n 1 && wiB b n) := by simp [mys]
          have HST := Lib.hid hstep
          clear hstep
          cases hmy : mys a b n 1
          · rw [hmy] at HST
            clear hmy
            go_wp2
            go_round
            case rel => exact ⟨2, by omega, rfl, by rw [HST.out]; rfl⟩
            case measure => first | omega | (simp [intOf]; done) | (simp [intOf]; omega)
          · rw [hmy] at HST
            clear hmy
            by_cases x0 : b = 0
            · have t1 : (b != 0) = false := by simp [x0]
              have hw : wiB b n = true := by rw [x0]; exact wi_zero_x n
              have HW := Lib.hid hw
              clear hw x0
              go_wp2
              go_round
              case rel => exact ⟨2, by omega, rfl, by rw [HST.out, HW.out]; rfl⟩
              case measure => first | omega | (simp [intOf]; done) | (simp [intOf]; omega)
            · have t1 : (b != 0) = true := by simpa using x0
              by_cases n0 : n = 0
              · have t2 : (n != 0) = false := by simp [n0]
                have hw : wiB b n = true := by rw [n0]; exact wi_zero_n _
                have HW := Lib.hid hw
                clear hw n0 x0
                go_wp2
                go_round
                case rel => exact ⟨2, by omega, rfl, by rw [HST.out, HW.out]; rfl⟩
                case measure => first | omega | (simp [intOf]; done) | (simp [intOf]; omega)
              · have t2 : (n != 0) = true := by simpa using n0
                have sx : (0 < b ∧ ((b.natAbs : Nat) : Int) = b) ∨ (b < 0 ∧ ((b.natAbs : Nat) : Int) = -b) := by omega
                have sn : (0 < n ∧ ((n.natAbs : Nat) : Int) = n) ∨ (n < 0 ∧ ((n.natAbs : Nat) : Int) = -n) := by omega
                have nn1 : -9007199254740992 ≤ n := by simpa using n1
                have nn2 : n ≤ 9007199254740992 := by simpa using n2
                rcases sx with ⟨sx1, sx2⟩ | ⟨sx1, sx2⟩ <;> rcases sn with ⟨sn1, sn2⟩ | ⟨sn1, sn2⟩
                · have hw := wi_abs x0 n0 (b) (n) sx2.symm sn2.symm
                  have HW := Lib.hid hw
                  have hdp : 1 ≤ n := by omega
                  have hd0 : ((n) == 0) = false := by simp; omega
                  clear hw x0 n0 sx2 sn2
                  go_wp2
                  go_round
                  case rel => exact ⟨2, by omega, rfl, by rw [HST.out, ← HW.out]; first | rfl | (rw [if_neg (by omega)]; rfl)⟩
                  case measure => first | omega | (simp [intOf]; done) | (simp [intOf]; omega)
                · have hw := wi_abs x0 n0 (b) (-n) sx2.symm sn2.symm
                  have HW := Lib.hid hw
                  have hdp : 1 ≤ (-n) := by omega
                  have hd0 : ((-n) == 0) = false := by simp; omega
                  clear hw x0 n0 sx2 sn2
                  go_wp2
                  go_round
                  case rel => exact ⟨2, by omega, rfl, by rw [HST.out, ← HW.out]; first | rfl | (rw [tdiv_neg_n sn1]; rfl) | (rw [if_pos (by omega)]; rfl) | (rw [if_pos (by omega), tdiv_neg_n sn1]; rfl)⟩
                  case measure => first | omega | (simp [intOf]; done) | (simp [intOf]; omega)
                · have hw := wi_abs x0 n0 (-b) (n) sx2.symm sn2.symm
                  have HW := Lib.hid hw
                  have hdp : 1 ≤ n := by omega
                  have hd0 : ((n) == 0) = false := by simp; omega
                  clear hw x0 n0 sx2 sn2
                  go_wp2
                  go_round
                  case rel => exact ⟨2, by omega, rfl, by rw [HST.out, ← HW.out]; first | rfl | (rw [if_neg (by omega)]; rfl)⟩
                  case measure => first | omega | (simp [intOf]; done) | (simp [intOf]; omega)
                · have hw := wi_abs x0 n0 (-b) (-n) sx2.symm sn2.symm
                  have HW := Lib.hid hw
                  have hdp : 1 ≤ (-n) := by omega
                  have hd0 : ((-n) == 0) = false := by simp; omega
                  clear hw x0 n0 sx2 sn2
                  go_wp2
                  go_round
                  case rel => exact ⟨2, by omega, rfl, by rw [HST.out, ← HW.out]; first | rfl | (rw [tdiv_neg_n sn1]; rfl) | (rw [if_pos (by omega)]; rfl) | (rw [if_pos (by omega), tdiv_neg_n sn1]; rfl)⟩
                  case measure => first | omega | (simp [intOf]; done) | (simp [intOf]; omega)
        · obtain rfl : i = 2 := by omega
          have hmy : mys a b n 2 = false := KM.out
          rw [hmy]
          clear hmy
          go_wp2
          go_ret
          exact ⟨rfl, hb1⟩
      · skip
        go_enter Try.func11, Try.ntmps11
        go_wp2_with (fail)
        with_reducible refine (sm).mono ?_
        rintro e w1 ⟨rfl, d1⟩
        have hb1 := d1
        go_wp2_with (fail)
        with_reducible refine (c1 _).mono ?_
        rintro e w' ⟨rfl, rfl⟩
        go_wp2_with (fail)
        with_reducible refine (cT _).mono ?_
        rintro e w' ⟨rfl, rfl⟩
        go_wp2
        go_loop [11, 45] (fun m v => ∃ i : Nat, i ≤ 2 ∧ v = .int .i64 i ∧ m = .bool (mys a b n i)) (fun _ v => 2 - (intOf v).toNat)
        case atStart => exact ⟨0, by omega, rfl, by simp [mys, HSN.out, n1, n2]⟩
        case round =>
        obtain ⟨i, hi, rfl, rfl⟩ := hrel
        have hcs : i = 0 ∨ i = 1 ∨ ¬ i < 2 := by omega
        rcases hcs with rfl | rfl | hlt
        · have hf1 : mys a b n 1 = false := by simp [mys, HSN.out, n1, n2]
          have hf : mys a b n 0 = false := by simp [mys, HSN.out, n1, n2]
          have HF1 := Lib.hid hf1
          rw [hf]
          clear hf hf1
          go_wp2
          go_round
          case rel => exact ⟨1, by omega, rfl, by rw [HF1.out]⟩
          case measure => first | omega | (simp [intOf]; done) | (simp [intOf]; omega)
        · have hf1 : mys a b n 2 = false := by simp [mys, HSN.out, n1, n2]
          have hf : mys a b n 1 = false := by simp [mys, HSN.out, n1, n2]
          have HF1 := Lib.hid hf1
          rw [hf]
          clear hf hf1
          go_wp2
          go_round
          case rel => exact ⟨2, by omega, rfl, by rw [HF1.out]⟩
          case measure => first | omega | (simp [intOf]; done) | (simp [intOf]; omega)
        · obtain rfl : i = 2 := by omega
          have hmy : mys a b n 2 = false := KM.out
          rw [hmy]
          clear hmy
          go_wp2
          go_ret
          exact ⟨rfl, hb1⟩
      · skip
        go_enter Try.func11, Try.ntmps11
        go_wp2_with (fail)
        with_reducible refine (sm).mono ?_
        rintro e w1 ⟨rfl, d1⟩
        have hb1 := d1
        go_wp2_with (fail)
        with_reducible refine (c1 _).mono ?_
        rintro e w' ⟨rfl, rfl⟩
        go_wp2_with (fail)
        with_reducible refine (cT _).mono ?_
        rintro e w' ⟨rfl, rfl⟩
        go_wp2
        go_loop [11, 45] (fun m v => ∃ i : Nat, i ≤ 2 ∧ v = .int .i64 i ∧ m = .bool (mys a b n i)) (fun _ v => 2 - (intOf v).toNat)
        case atStart => exact ⟨0, by omega, rfl, by simp [mys, HSN.out, n1]⟩
        case round =>
        obtain ⟨i, hi, rfl, rfl⟩ := hrel
        have hcs : i = 0 ∨ i = 1 ∨ ¬ i < 2 := by omega
        rcases hcs with rfl | rfl | hlt
        · have hf1 : mys a b n 1 = false := by simp [mys, HSN.out, n1]
          have hf : mys a b n 0 = false := by simp [mys, HSN.out, n1]
          have HF1 := Lib.hid hf1
          rw [hf]
          clear hf hf1
          go_wp2
          go_round
          case rel => exact ⟨1, by omega, rfl, by rw [HF1.out]⟩
          case measure => first | omega | (simp [intOf]; done) | (simp [intOf]; omega)
        · have hf1 : mys a b n 2 = false := by simp [mys, HSN.out, n1]
          have hf : mys a b n 1 = false := by simp [mys, HSN.out, n1]
          have HF1 := Lib.hid hf1
          rw [hf]
          clear hf hf1
          go_wp2
          go_round
          case rel => exact ⟨2, by omega, rfl, by rw [HF1.out]⟩
          case measure => first | omega | (simp [intOf]; done) | (simp [intOf]; omega)
        · obtain rfl : i = 2 := by omega
          have hmy : mys a b n 2 = false := KM.out
          rw [hmy]
          clear hmy
          go_wp2
          go_ret
          exact ⟨rfl, hb1⟩
    · have KM := Lib.hid km
      clear km HKEY
      rcases hnc with ⟨n1, n2⟩ | ⟨n1, n2⟩ | n1
      · skip
        go_enter Try.func11, Try.ntmps11
        go_wp2_with (fail)
        with_reducible refine (sm).mono ?_
        rintro e w1 ⟨rfl, d1⟩
        have hb1 := d1
        go_wp2_with (fail)
        with_reducible refine (c1 _).mono ?_
        rintro e w' ⟨rfl, rfl⟩
        go_wp2_with (fail)
        with_reducible refine (cT _).mono ?_
        rintro e w' ⟨rfl, rfl⟩
        go_wp2
        go_loop [11, 45] (fun m v => ∃ i : Nat, i ≤ 2 ∧ v = .int .i64 i ∧ m = .bool (mys a b n i)) (fun _ v => 2 - (intOf v).toNat)
        case atStart => exact ⟨0, by omega, rfl, by simp only [mys, if_pos]; rw [HSN.out, n1, n2]; rfl⟩
        case round =>
        obtain ⟨i, hi, rfl, rfl⟩ := hrel
        have hcs : i = 0 ∨ i = 1 ∨ ¬ i < 2 := by omega
        rcases hcs with rfl | rfl | hlt
        · skip
          have hstep : mys a b n 1 = (mys a b n 0 && wiB a n) := by simp [mys]
          have HST := Lib.hid hstep
          clear hstep
          cases hmy : mys a b n 0
          · rw [hmy] at HST
            clear hmy
            go_wp2
            go_round
            case rel => exact ⟨1, by omega, rfl, by rw [HST.out]; rfl⟩
            case measure => first | omega | (simp [intOf]; done) | (simp [intOf]; omega)
          · rw [hmy] at HST
            clear hmy
            by_cases x0 : a = 0
            · have t1 : (a != 0) = false := by simp [x0]
              have hw : wiB a n = true := by rw [x0]; exact wi_zero_x n
              have HW := Lib.hid hw
              clear hw x0
              go_wp2
              go_round
              case rel => exact ⟨1, by omega, rfl, by rw [HST.out, HW.out]; rfl⟩
              case measure => first | omega | (simp [intOf]; done) | (simp [intOf]; omega)
            · have t1 : (a != 0) = true := by simpa using x0
              by_cases n0 : n = 0
              · have t2 : (n != 0) = false := by simp [n0]
                have hw : wiB a n = true := by rw [n0]; exact wi_zero_n _
                have HW := Lib.hid hw
                clear hw n0 x0
                go_wp2
                go_round
                case rel => exact ⟨1, by omega, rfl, by rw [HST.out, HW.out]; rfl⟩
                case measure => first | omega | (simp [intOf]; done) | (simp [intOf]; omega)
              · have t2 : (n != 0) = true := by simpa using n0
                have sx : (0 < a ∧ ((a.natAbs : Nat) : Int) = a) ∨ (a < 0 ∧ ((a.natAbs : Nat) : Int) = -a) := by omega
                have sn : (0 < n ∧ ((n.natAbs : Nat) : Int) = n) ∨ (n < 0 ∧ ((n.natAbs : Nat) : Int) = -n) := by omega
                have nn1 : -9007199254740992 ≤ n := by simpa using n1
                have nn2 : n ≤ 9007199254740992 := by simpa using n2
                rcases sx with ⟨sx1, sx2⟩ | ⟨sx1, sx2⟩ <;> rcases sn with ⟨sn1, sn2⟩ | ⟨sn1, sn2⟩
                · have hw := wi_abs x0 n0 (a) (n) sx2.symm sn2.symm
                  have HW := Lib.hid hw
                  have hdp : 1 ≤ n := by omega
                  have hd0 : ((n) == 0) = false := by simp; omega
                  clear hw x0 n0 sx2 sn2
                  go_wp2
                  go_round
                  case rel => exact ⟨1, by omega, rfl, by rw [HST.out, ← HW.out]; first | rfl | (rw [if_neg (by omega)]; rfl)⟩
                  case measure => first | omega | (simp [intOf]; done) | (simp [intOf]; omega)
                · have hw := wi_abs x0 n0 (a) (-n) sx2.symm sn2.symm
                  have HW := Lib.hid hw
                  have hdp : 1 ≤ (-n) := by omega
                  have hd0 : ((-n) == 0) = false := by simp; omega
                  clear hw x0 n0 sx2 sn2
                  go_wp2
                  go_round
                  case rel => exact ⟨1, by omega, rfl, by rw [HST.out, ← HW.out]; first | rfl | (rw [tdiv_neg_n sn1]; rfl) | (rw [if_pos (by omega)]; rfl) | (rw [if_pos (by omega), tdiv_neg_n sn1]; rfl)⟩
                  case measure => first | omega | (simp [intOf]; done) | (simp [intOf]; omega)
                · have hw := wi_abs x0 n0 (-a) (n) sx2.symm sn2.symm
                  have HW := Lib.hid hw
                  have hdp : 1 ≤ n := by omega
                  have hd0 : ((n) == 0) = false := by simp; omega
                  clear hw x0 n0 sx2 sn2
                  go_wp2
                  go_round
                  case rel => exact ⟨1, by omega, rfl, by rw [HST.out, ← HW.out]; first | rfl | (rw [if_neg (by omega)]; rfl)⟩
                  case measure => first | omega | (simp [intOf]; done) | (simp [intOf]; omega)
                · have hw := wi_abs x0 n0 (-a) (-n) sx2.symm sn2.symm
                  have HW := Lib.hid hw
                  have hdp : 1 ≤ (-n) := by omega
                  have hd0 : ((-n) == 0) = false := by simp; omega
                  clear hw x0 n0 sx2 sn2
                  go_wp2
                  go_round
                  case rel => exact ⟨1, by omega, rfl, by rw [HST.out, ← HW.out]; first | rfl | (rw [tdiv_neg_n sn1]; rfl) | (rw [if_pos (by omega)]; rfl) | (rw [if_pos (by omega), tdiv_neg_n sn1]; rfl)⟩
                  case measure => first | omega | (simp [intOf]; done) | (simp [intOf]; omega)
        · skip
          have hstep : mys a b n 2 = (mys a b n 1 && wiB b n) := by simp [mys]
          have HST := Lib.hid hstep
          clear hstep
          cases hmy : mys a b n 1
          · rw [hmy] at HST
            clear hmy
            go_wp2
            go_round
            case rel => exact ⟨2, by omega, rfl, by rw [HST.out]; rfl⟩
            case measure => first | omega | (simp [intOf]; done) | (simp [intOf]; omega)
          · rw [hmy] at HST
            clear hmy
            by_cases x0 : b = 0
            · have t1 : (b != 0) = false := by simp [x0]
              have hw : wiB b n = true := by rw [x0]; exact wi_zero_x n
              have HW := Lib.hid hw
              clear hw x0
              go_wp2
              go_round
              case rel => exact ⟨2, by omega, rfl, by rw [HST.out, HW.out]; rfl⟩
              case measure => first | omega | (simp [intOf]; done) | (simp [intOf]; omega)
            · have t1 : (b != 0) = true := by simpa using x0
              by_cases n0 : n = 0
              · have t2 : (n != 0) = false := by simp [n0]
                have hw : wiB b n = true := by rw [n0]; exact wi_zero_n _
                have HW := Lib.hid hw
                clear hw n0 x0
                go_wp2
                go_round
                case rel => exact ⟨2, by omega, rfl, by rw [HST.out, HW.out]; rfl⟩
                case measure => first | omega | (simp [intOf]; done) | (simp [intOf]; omega)
              · have t2 : (n != 0) = true := by simpa using n0
                have sx : (0 < b ∧ ((b.natAbs : Nat) : Int) = b) ∨ (b < 0 ∧ ((b.natAbs : Nat) : Int) = -b) := by omega
                have sn : (0 < n ∧ ((n.natAbs : Nat) : Int) = n) ∨ (n < 0 ∧ ((n.natAbs : Nat) : Int) = -n) := by omega
                have nn1 : -9007199254740992 ≤ n := by simpa using n1
                have nn2 : n ≤ 9007199254740992 := by simpa using n2
                rcases sx with ⟨sx1, sx2⟩ | ⟨sx1, sx2⟩ <;> rcases sn with ⟨sn1, sn2⟩ | ⟨sn1, sn2⟩
                · have hw := wi_abs x0 n0 (b) (n) sx2.symm sn2.symm
                  have HW := Lib.hid hw
                  have hdp : 1 ≤ n := by omega
                  have hd0 : ((n) == 0) = false := by simp; omega
                  clear hw x0 n0 sx2 sn2
                  go_wp2
                  go_round
                  case rel => exact ⟨2, by omega, rfl, by rw [HST.out, ← HW.out]; first | rfl | (rw [if_neg (by omega)]; rfl)⟩
                  case measure => first | omega | (simp [intOf]; done) | (simp [intOf]; omega)
                · have hw := wi_abs x0 n0 (b) (-n) sx2.symm sn2.symm
                  have HW := Lib.hid hw
                  have hdp : 1 ≤ (-n) := by omega
                  have hd0 : ((-n) == 0) = false := by simp; omega
                  clear hw x0 n0 sx2 sn2
                  go_wp2
                  go_round
                  case rel => exact ⟨2, by omega, rfl, by rw [HST.out, ← HW.out]; first | rfl | (rw [tdiv_neg_n sn1]; rfl) | (rw [if_pos (by omega)]; rfl) | (rw [if_pos (by omega), tdiv_neg_n sn1]; rfl)⟩
                  case measure => first | omega | (simp [intOf]; done) | (simp [intOf]; omega)
                · have hw := wi_abs x0 n0 (-b) (n) sx2.symm sn2.symm
                  have HW := Lib.hid hw
                  have hdp : 1 ≤ n := by omega
                  have hd0 : ((n) == 0) = false := by simp; omega
                  clear hw x0 n0 sx2 sn2
                  go_wp2
                  go_round
                  case rel => exact ⟨2, by omega, rfl, by rw [HST.out, ← HW.out]; first | rfl | (rw [if_neg (by omega)]; rfl)⟩
                  case measure => first | omega | (simp [intOf]; done) | (simp [intOf]; omega)
                · have hw := wi_abs x0 n0 (-b) (-n) sx2.symm sn2.symm
                  have HW := Lib.hid hw
                  have hdp : 1 ≤ (-n) := by omega
                  have hd0 : ((-n) == 0) = false := by simp; omega
                  clear hw x0 n0 sx2 sn2
                  go_wp2
                  go_round
                  case rel => exact ⟨2, by omega, rfl, by rw [HST.out, ← HW.out]; first | rfl | (rw [tdiv_neg_n sn1]; rfl) | (rw [if_pos (by omega)]; rfl) | (rw [if_pos (by omega), tdiv_neg_n sn1]; rfl)⟩
                  case measure => first | omega | (simp [intOf]; done) | (simp [intOf]; omega)
        · obtain rfl : i = 2 := by omega
          have hmy : mys a b n 2 = true := KM.out
          rw [hmy]
          clear hmy
          go_wp2_with (fail)
          with_reducible refine (cS _).mono ?_
          rintro e w' ⟨rfl, rfl⟩
          go_wp2
          go_ret
          exact ⟨rfl, hb1⟩
      · exfalso
        have := KM.out
        simp [HSN.out, n1, n2] at this
      · exfalso
        have := KM.out
        simp [HSN.out, n1] at this
end Go.Proofs.Ytkiefceomgbbhaa
