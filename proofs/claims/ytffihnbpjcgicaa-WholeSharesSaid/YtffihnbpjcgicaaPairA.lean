/- What the calls of pair answer that look at sides: exact, Of, whole, Right, Sides, Swap, within, Times. -/
import Derived.Test.YtffihnbpjcgicaaFltB
import Derived.Test.YtffihnbpjcgicaaBandC
import Derived.Test.YtffihnbpjcgicaaMoneyB
import Derived.Laws.Externs
import Derived.WalkLawsBesides
namespace Go.Proofs.Ytffihnbpjcgicaa
open Go.RowKit Go.Sort
set_option linter.unusedVariables false

def sdB (n : Int) : Bool := decide (-9007199254740992 ≤ n ∧ n ≤ 9007199254740992)
theorem sdB_yes {n : Int} (h : sdB n = true) : -9007199254740992 ≤ n ∧ n ≤ 9007199254740992 := by simpa [sdB] using h
theorem sdB_no {n : Int} (h : sdB n = false) : n < -9007199254740992 ∨ 9007199254740992 < n := by
  have : ¬ (-9007199254740992 ≤ n ∧ n ≤ 9007199254740992) := by simpa [sdB] using h
  omega
theorem sdB_mk {n : Int} (h : -9007199254740992 ≤ n) (h' : n ≤ 9007199254740992) : sdB n = true := by simp [sdB, h, h']
theorem sdB_mk_no {n : Int} (h : n < -9007199254740992 ∨ 9007199254740992 < n) : sdB n = false := by simp only [sdB, decide_eq_false_iff_not]; omega

theorem exact_any (n : Int) (W : World) : Calls Try.prog 67 #[.int .i64 n] W fun e w' => e = .returned (.bool (sdB n)) ∧ W = w' := by
  go_enter Try.func67, Try.ntmps67
  go_wp2
  · go_ret
    exact ⟨ret_b (by simp only [sdB]; congr 1; simp; omega), rfl⟩
  · go_ret
    exact ⟨ret_b (by simp only [sdB]; simp; omega), rfl⟩
theorem exact_b (n : Int) (b : Bool) (h : sdB n = b) (W : World) : Calls Try.prog 67 #[.int .i64 n] W fun e w' => e = .returned (.bool b) ∧ W = w' := by
  subst h
  exact exact_any n W

theorem order_lt {x y : Nat} {a b : Int} (hx : Is x a) (hy : Is y b) (h : a < b) : FloatKind.f64.format.order x y = some .lt := (order_is hx hy).trans (by rw [Int.compare_eq_lt.2 h])
theorem order_eq {x y : Nat} {a b : Int} (hx : Is x a) (hy : Is y b) (h : a = b) : FloatKind.f64.format.order x y = some .eq := (order_is hx hy).trans (by subst h; simp)
theorem order_gt {x y : Nat} {a b : Int} (hx : Is x a) (hy : Is y b) (h : b < a) : FloatKind.f64.format.order x y = some .gt := (order_is hx hy).trans (by rw [Int.compare_eq_gt.2 h])
theorem tointegral_run (nm : String) (way : Ieee.Toward) (b : Nat) (s : Bool) (m : Nat) (e : Int) (hr : FloatKind.f64.decode b = .number s m e) :
    Extern.MathFloor.toIntegral nm way #[.float .f64 b] = pure (.float .f64 (FloatKind.f64.encode ((Ieee.Datum.number s m e).integral way))) := by
  conv => lhs; whnf
  simp only [hr]
theorem archtrunc (b : Nat) (n : Int) (h : Is b n) (hn : sdB n = true) : ∃ r, Is r n ∧ ∀ W, (callFunc 72 #[.float .f64 b]).run Try.prog W = .ok (.value (.float .f64 r)) W := by
  refine ⟨_, trunc_is h (by have := sdB_yes hn; omega), fun W => ?_⟩
  rw [run_callFunc_extern (P := Try.prog) (fn := Try.f72) (e := Extern.MathFloor.toIntegral "math.archTrunc" .zero) (by kernel_rfl) (by kernel_rfl) (by kernel_rfl) (by kernel_rfl) (by rfl)]
  obtain ⟨s, m, e, hr, _⟩ := h
  have hd : FloatKind.f64.decode b = .number s m e := hr
  rw [tointegral_run _ _ _ _ _ _ hd, hr]
  rfl
theorem trunc_any (b : Nat) (n : Int) (h : Is b n) (hn : sdB n = true) : ∃ r, Is r n ∧ ∀ W, Calls Try.prog 71 #[.float .f64 b] W fun e w' => e = .returned (.float .f64 r) ∧ W = w' := by
  obtain ⟨r, hr, hc⟩ := archtrunc b n h hn
  refine ⟨r, hr, fun W => ?_⟩
  go_enter Try.func71, Try.ntmps71
  go_wp2
  go_ret
  exact ⟨rfl, rfl⟩
theorem whole_any (b : Nat) (n : Int) (h : Is b n) (W : World) : Calls Try.prog 69 #[.float .f64 b] W fun e w' => e = .returned (.bool (sdB n)) ∧ W = w' := by
  cases hn : sdB n
  · have hn2 := sdB_no hn
    clear hn
    rcases hn2 with k | k
    · have o1 := order_lt h least_is k
      clear h
      go_enter Try.func69, Try.ntmps69
      go_wp2
      go_ret
      exact ⟨rfl, rfl⟩
    · have o1 := order_gt h least_is (by omega)
      have o2 := order_gt h most_is k
      clear h
      go_enter Try.func69, Try.ntmps69
      go_wp2
      go_ret
      exact ⟨rfl, rfl⟩
  · obtain ⟨n1, n2⟩ := sdB_yes hn
    obtain ⟨r, hr, ht⟩ := trunc_any b n h hn
    have o3 := order_eq h hr rfl
    have k1 : FloatKind.f64.format.order b 14069245235905429504 = some .eq ∨ FloatKind.f64.format.order b 14069245235905429504 = some .gt := by
      rcases Int.lt_or_le (-9007199254740992) n with k | k
      · exact .inr (order_gt h least_is k)
      · exact .inl (order_eq h least_is (by omega))
    have k2 : FloatKind.f64.format.order b 4845873199050653696 = some .eq ∨ FloatKind.f64.format.order b 4845873199050653696 = some .lt := by
      rcases Int.lt_or_le n 9007199254740992 with k | k
      · exact .inr (order_lt h most_is k)
      · exact .inl (order_eq h most_is (by omega))
    clear hn h hr
    rcases k1 with o1 | o1 <;> rcases k2 with o2 | o2
    all_goals
      go_enter Try.func69, Try.ntmps69
      go_wp2_with (fail)
      with_reducible refine (ht _).mono ?_
      rintro e w' ⟨rfl, rfl⟩
      go_wp2
      go_ret
      exact ⟨rfl, rfl⟩
theorem whole_b (b : Nat) (n : Int) (v : Bool) (h : Is b n) (hv : sdB n = v) (W : World) : Calls Try.prog 69 #[.float .f64 b] W fun e w' => e = .returned (.bool v) ∧ W = w' := by
  subst hv
  exact whole_any b n h W
theorem pright_any (x y : Nat) (a b : Int) (hx : Is x a) (hy : Is y b) (W : World) : Calls Try.prog 64 #[.complex .f64 x y] W fun e w' => e = .returned (.bool (sdB a && sdB b)) ∧ W = w' := by
  cases ha : sdB a
  · have c1 := whole_b x a false hx ha
    clear ha hx hy
    go_enter Try.func64, Try.ntmps64
    go_wp2_with (fail)
    with_reducible refine (c1 _).mono ?_
    rintro e w' ⟨rfl, rfl⟩
    go_wp2
    go_ret
    exact ⟨rfl, rfl⟩
  · have c1 := whole_b x a true hx ha
    have c2 := whole_any y b hy
    generalize sdB b = v at *
    clear ha hx hy
    go_enter Try.func64, Try.ntmps64
    go_wp2_with (fail)
    with_reducible refine (c1 _).mono ?_
    rintro e w' ⟨rfl, rfl⟩
    go_wp2_with (fail)
    with_reducible refine (c2 _).mono ?_
    rintro e w' ⟨rfl, rfl⟩
    go_wp2
    go_ret
    exact ⟨rfl, rfl⟩
theorem pright_b (x y : Nat) (a b : Int) (v : Bool) (hx : Is x a) (hy : Is y b) (hv : (sdB a && sdB b) = v) (W : World) : Calls Try.prog 64 #[.complex .f64 x y] W fun e w' => e = .returned (.bool v) ∧ W = w' := by
  subst hv
  exact pright_any x y a b hx hy W
theorem of_ok2 (a b : Int) (ha : sdB a = true) (hb : sdB b = true) (W : World) : Calls Try.prog 62 #[.int .i64 a, .int .i64 b] W fun e w' => e = .returned (.tuple #[.complex .f64 (floatOfInt .f64 a) (floatOfInt .f64 b), .int .i64 0]) ∧ W = w' := by
  have c1 := exact_b a true ha
  have c2 := exact_b b true hb
  clear ha hb
  go_enter Try.func62, Try.ntmps62
  go_wp2_with (fail)
  with_reducible refine (c1 _).mono ?_
  rintro e w' ⟨rfl, rfl⟩
  go_wp2_with (fail)
  with_reducible refine (c2 _).mono ?_
  rintro e w' ⟨rfl, rfl⟩
  go_wp2
  go_ret2
  exact ⟨rfl, rfl⟩
theorem of_bad2 (a b : Int) (h : (sdB a && sdB b) = false) (W : World) : Calls Try.prog 62 #[.int .i64 a, .int .i64 b] W fun e w' => e = .returned (.tuple #[.complex .f64 0 0, .int .i64 10]) ∧ W = w' := by
  cases ha : sdB a
  · have c1 := exact_b a false ha
    clear ha h
    go_enter Try.func62, Try.ntmps62
    go_wp2_with (fail)
    with_reducible refine (c1 _).mono ?_
    rintro e w' ⟨rfl, rfl⟩
    go_wp2
    go_ret2
    exact ⟨rfl, rfl⟩
  · have c1 := exact_b a true ha
    have c2 := exact_b b false (by rw [ha] at h; simpa using h)
    clear ha h
    go_enter Try.func62, Try.ntmps62
    go_wp2_with (fail)
    with_reducible refine (c1 _).mono ?_
    rintro e w' ⟨rfl, rfl⟩
    go_wp2_with (fail)
    with_reducible refine (c2 _).mono ?_
    rintro e w' ⟨rfl, rfl⟩
    go_wp2
    go_ret2
    exact ⟨rfl, rfl⟩
theorem sides_ok (x y : Nat) (a b : Int) (hx : Is x a) (hy : Is y b) (ha : sdB a = true) (hb : sdB b = true) (W : World) : Calls Try.prog 59 #[.complex .f64 x y] W fun e w' => e = .returned (.tuple #[.int .i64 a, .int .i64 b, .int .i64 0]) ∧ W = w' := by
  have c1 := pright_b x y a b true hx hy (by rw [ha, hb]; rfl)
  have f1 : floatToIntVal .f64 x .i64 = some a := by
    have := toint_is hx
    have hh := sdB_yes ha
    unfold floatToIntVal
    rw [show FloatKind.f64.decode x = Ieee.double.read x from rfl, this]
    exact if_pos ⟨by show -9223372036854775808 ≤ a; omega, by show a ≤ 9223372036854775807; omega⟩
  have f2 : floatToIntVal .f64 y .i64 = some b := by
    have := toint_is hy
    have hh := sdB_yes hb
    unfold floatToIntVal
    rw [show FloatKind.f64.decode y = Ieee.double.read y from rfl, this]
    exact if_pos ⟨by show -9223372036854775808 ≤ b; omega, by show b ≤ 9223372036854775807; omega⟩
  have g1 := fun W => run_convert_float_int (P := Try.prog) W 109 2 .f64 .i64 x a (by kernel_rfl) Try.underlying2 f1
  have g2 := fun W => run_convert_float_int (P := Try.prog) W 109 2 .f64 .i64 y b (by kernel_rfl) Try.underlying2 f2
  clear f1 f2 hx hy ha hb
  go_enter Try.func59, Try.ntmps59
  go_wp2_with (fail)
  with_reducible refine (c1 _).mono ?_
  rintro e w' ⟨rfl, rfl⟩
  go_wp2
  go_ret3
  exact ⟨rfl, rfl⟩
theorem sides_bad (x y : Nat) (a b : Int) (hx : Is x a) (hy : Is y b) (h : (sdB a && sdB b) = false) (W : World) : Calls Try.prog 59 #[.complex .f64 x y] W fun e w' => e = .returned (.tuple #[.int .i64 0, .int .i64 0, .int .i64 10]) ∧ W = w' := by
  have c1 := pright_b x y a b false hx hy h
  clear hx hy h
  go_enter Try.func59, Try.ntmps59
  go_wp2_with (fail)
  with_reducible refine (c1 _).mono ?_
  rintro e w' ⟨rfl, rfl⟩
  go_wp2
  go_ret3
  exact ⟨rfl, rfl⟩
end Go.Proofs.Ytffihnbpjcgicaa
