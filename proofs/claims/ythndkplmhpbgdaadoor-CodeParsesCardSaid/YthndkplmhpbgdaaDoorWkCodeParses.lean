/- CodeParses: the whole walk. -/
import Derived.Test.YthndkplmhpbgdaaDoorCodG
import Derived.Test.YthndkplmhpbgdaaDoorCodN
namespace Go.Proofs.YthndkplmhpbgdaaDoor
open Go.RowKit
set_option linter.unusedVariables false
set_option linter.unusedSimpArgs false

theorem data_app (t : ByteArray) (l : List UInt8) : (t ++ ⟨l.toArray⟩).data.toList = t.data.toList ++ l := by simp [ByteArray.data_append]
theorem app_data (t : ByteArray) (l : List UInt8) : ((⟨l.toArray⟩ : ByteArray) ++ t).data.toList = l ++ t.data.toList := by simp [ByteArray.data_append]
theorem cv_eta (c : CV) : c = ⟨c.s, c.k, c.a, c.f, c.x, c.e⟩ := rfl
/-- a code's text, sA the words that it is -/
theorem text_v (s k a f : Int) (x : Bool) (t : ByteArray) (w : World) (D : Tab w) (h : chkC s k a f = 0) (ht : txtC s k a f x = t.data.toList) :
    Calls Tryd.prog 26 #[.agg #[.int .i64 s, .int .i64 k, .int .i64 a, .int .i64 f, .bool x]] w fun e w' => e = .returned (.string t) ∧ Below w.heap.size w w' := by
  have := text_ok s k a f x w D h
  rw [ht, data_self] at this
  exact this
theorem hasX (t : ByteArray) (x : Bool) (h : sufB 88 t.data.toList = x) (hs : t.size ≤ 100) (w : World) : Calls Tryd.prog 31 #[.string t, .string ⟨#[88]⟩] w fun e w' => e = .returned (.bool x) ∧ w = w' := by
  refine (Tryd.strings_HasSuffix t ⟨#[88]⟩ w (by omega)).mono ?_
  rintro e w' ⟨rfl, rfl⟩
  refine ⟨?_, rfl⟩
  rw [show (⟨#[88]⟩ : ByteArray).data.toList = [88] from rfl, has_suf, h]
theorem cparses_long (t : ByteArray) (w : World) (D : Tab w) (hs : t.size ≤ 9223372036854775807) (h : 100 < t.size) :
    Calls Tryd.prog 9 #[.string t] w fun e w' => e = .returned (.bool true) ∧ Below w.heap.size w w' := by
  have g1 : (100 : Int) < t.size := by omega
  have C0 := fun w D => codes_any w D
  go_enter Tryd.func9, Tryd.ntmps9
  go_wp2_with (fail)
  refine (C0 _ D).mono ?_
  rintro e w1 ⟨rfl, B1⟩
  have T1 := D.below B1
  go_wp2
  go_ret
  exact ⟨rfl, B1⟩
set_option maxHeartbeats 1000000 in
theorem cparses_bad (t : ByteArray) (w : World) (D : Tab w) (h : ¬ 100 < t.size) (v : Int) (hv : v = 5 ∨ v = 80) (hp : parC t.data.toList = noC v) :
    Calls Tryd.prog 9 #[.string t] w fun e w' => e = .returned (.bool true) ∧ Below w.heap.size w w' := by
  have g1 : ¬ (100 : Int) < t.size := by omega
  have p1 := fun w => parse_v t w (by omega) 0 0 0 0 v false hp
  have q1 := fun W => eqc_yes 0 0 0 0 0 0 0 0 false false W (by simp)
  rcases hv with rfl | rfl
  all_goals
    have C0 := fun w D => codes_any w D
    go_enter Tryd.func9, Tryd.ntmps9
    go_wp2_with (fail)
    refine (C0 _ D).mono ?_
    rintro e w1 ⟨rfl, B1⟩
    have T1 := D.below B1
    go_wp2_with (fail)
    refine (p1 _).mono ?_
    rintro e w2 ⟨rfl, hb⟩
    have B2 := below_step B1 hb B1.size
    have B3 := below_step B2 (below_new w2 (.cells #[.int .i64 0, .int .i64 0, .int .i64 0, .int .i64 0, .bool false] 41)) B2.size
    go_wp2
    go_ret
    exact ⟨rfl, B3⟩
set_option maxHeartbeats 2000000 in
theorem cparses_false_lt (t : ByteArray) (w : World) (D : Tab w) (h : ¬ 100 < t.size) (h0 : 0 < t.size) (s k a f : Int) (hp : parC t.data.toList = ⟨s, k, a, f, false, 0⟩) (sA kA aA fA : Int) (xA : Bool) (hA : parC (t.data.toList ++ [88]) = ⟨sA, kA, aA, fA, xA, 0⟩) (hB : parC (t.data.toList ++ [32]) = noC 5) (cs ck ca cf : Int) (cx : Bool) (hC : parC (80 :: t.data.toList) = ⟨cs, ck, ca, cf, cx, 0⟩) (hx : sufB 88 t.data.toList = false) (z1 : (t[0].toNat : Int) < 80) :
    Calls Tryd.prog 9 #[.string t] w fun e w' => e = .returned (.bool true) ∧ Below w.heap.size w w' := by
  have g1 : ¬ (100 : Int) < t.size := by omega
  have g0 : (0 : Int) < t.size := by omega
  have n1 : ¬ 9223372036854775807 < t.size + 1 := by omega
  have n2 : ¬ 9223372036854775807 < 1 + t.size := by omega
  obtain ⟨hc, ht⟩ := txt_par hp
  have p1 := fun w => parse_v t w (by omega) s k a f 0 false hp
  have p2 := fun w => parse_v (t ++ ⟨#[88]⟩) w (by rw [ByteArray.size_append]; show t.size + 1 ≤ 4611686018427387904; omega) sA kA aA fA 0 xA (by rw [show (⟨#[88]⟩ : ByteArray) = ⟨([88] : List UInt8).toArray⟩ from rfl, data_app]; exact hA)
  have p3 := fun w => parse_v (t ++ ⟨#[32]⟩) w (by rw [ByteArray.size_append]; show t.size + 1 ≤ 4611686018427387904; omega) 0 0 0 0 5 false (by rw [show (⟨#[32]⟩ : ByteArray) = ⟨([32] : List UInt8).toArray⟩ from rfl, data_app]; exact hB)
  have p4 := fun w => parse_v (⟨#[80]⟩ ++ t) w (by rw [ByteArray.size_append]; show 1 + t.size ≤ 4611686018427387904; omega) cs ck ca cf 0 cx (by rw [show (⟨#[80]⟩ : ByteArray) = ⟨([80] : List UInt8).toArray⟩ from rfl, app_data]; exact hC)
  have tx := fun w D => text_v s k a f false t w D hc ht
  have sx := hasX t false hx (by omega)
  clear hp hA hB hC hx hc ht
  have C0 := fun w D => codes_any w D
  go_enter Tryd.func9, Tryd.ntmps9
  go_wp2_with (fail)
  refine (C0 _ D).mono ?_
  rintro e w1 ⟨rfl, B1⟩
  have T1 := D.below B1
  go_wp2_with (fail)
  refine (p1 _).mono ?_
  rintro e w2 ⟨rfl, hb⟩
  have B2 := below_step B1 hb B1.size
  have B2 := below_step B2 (below_new w2 (.cells #[.int .i64 s, .int .i64 k, .int .i64 a, .int .i64 f, .bool false] 41)) B2.size
  clear hb
  have C1 := cb_new w2 s k a f false 41
  obtain ⟨d0, d1, d2, d3, d4⟩ := id C1.1
  have T2 := D.below B2
  go_wp2_with (fail)
  refine (tx _ T2).mono ?_
  rintro e w3 ⟨rfl, hb⟩
  have B3 := below_step B2 hb B2.size
  clear hb C1 d0 d1 d2 d3 d4
  go_wp2_with (fail)
  refine (p2 _).mono ?_
  rintro e w4 ⟨rfl, hb⟩
  have B4 := below_step B3 hb B3.size
  have B4 := below_step B4 (below_new w4 (.cells #[.int .i64 sA, .int .i64 kA, .int .i64 aA, .int .i64 fA, .bool xA] 41)) B4.size
  clear hb
  go_wp2_with (fail)
  refine (p3 _).mono ?_
  rintro e w5 ⟨rfl, hb⟩
  have B5 := below_step B4 hb B4.size
  have B5 := below_step B5 (below_new w5 (.cells #[.int .i64 0, .int .i64 0, .int .i64 0, .int .i64 0, .bool false] 41)) B5.size
  clear hb
  go_wp2_with (fail)
  refine (p4 _).mono ?_
  rintro e w6 ⟨rfl, hb⟩
  have B6 := below_step B5 hb B5.size
  have B6 := below_step B6 (below_new w6 (.cells #[.int .i64 cs, .int .i64 ck, .int .i64 ca, .int .i64 cf, .bool cx] 41)) B6.size
  clear hb
  go_wp2_with (fail)
  refine (sx _).mono ?_
  rintro e w' ⟨rfl, rfl⟩
  go_wp2
  go_ret
  exact ⟨rfl, B6⟩
set_option maxHeartbeats 2000000 in
theorem cparses_false_mid (t : ByteArray) (w : World) (D : Tab w) (h : ¬ 100 < t.size) (h0 : 0 < t.size) (s k a f : Int) (hp : parC t.data.toList = ⟨s, k, a, f, false, 0⟩) (sA kA aA fA : Int) (xA : Bool) (hA : parC (t.data.toList ++ [88]) = ⟨sA, kA, aA, fA, xA, 0⟩) (hB : parC (t.data.toList ++ [32]) = noC 5) (cs ck ca cf : Int) (cx : Bool) (hC : parC (80 :: t.data.toList) = ⟨cs, ck, ca, cf, cx, 5⟩) (hx : sufB 88 t.data.toList = false) (z1 : 80 ≤ (t[0].toNat : Int)) (z2 : (t[0].toNat : Int) ≤ 86) :
    Calls Tryd.prog 9 #[.string t] w fun e w' => e = .returned (.bool true) ∧ Below w.heap.size w w' := by
  have g1 : ¬ (100 : Int) < t.size := by omega
  have g0 : (0 : Int) < t.size := by omega
  have n1 : ¬ 9223372036854775807 < t.size + 1 := by omega
  have n2 : ¬ 9223372036854775807 < 1 + t.size := by omega
  obtain ⟨hc, ht⟩ := txt_par hp
  have p1 := fun w => parse_v t w (by omega) s k a f 0 false hp
  have p2 := fun w => parse_v (t ++ ⟨#[88]⟩) w (by rw [ByteArray.size_append]; show t.size + 1 ≤ 4611686018427387904; omega) sA kA aA fA 0 xA (by rw [show (⟨#[88]⟩ : ByteArray) = ⟨([88] : List UInt8).toArray⟩ from rfl, data_app]; exact hA)
  have p3 := fun w => parse_v (t ++ ⟨#[32]⟩) w (by rw [ByteArray.size_append]; show t.size + 1 ≤ 4611686018427387904; omega) 0 0 0 0 5 false (by rw [show (⟨#[32]⟩ : ByteArray) = ⟨([32] : List UInt8).toArray⟩ from rfl, data_app]; exact hB)
  have p4 := fun w => parse_v (⟨#[80]⟩ ++ t) w (by rw [ByteArray.size_append]; show 1 + t.size ≤ 4611686018427387904; omega) cs ck ca cf 5 cx (by rw [show (⟨#[80]⟩ : ByteArray) = ⟨([80] : List UInt8).toArray⟩ from rfl, app_data]; exact hC)
  have tx := fun w D => text_v s k a f false t w D hc ht
  have sx := hasX t false hx (by omega)
  have z3 : ¬ (t[0].toNat : Int) < 80 := by omega
  have z4 : ¬ 86 < (t[0].toNat : Int) := by omega
  clear hp hA hB hC hx hc ht
  have C0 := fun w D => codes_any w D
  go_enter Tryd.func9, Tryd.ntmps9
  go_wp2_with (fail)
  refine (C0 _ D).mono ?_
  rintro e w1 ⟨rfl, B1⟩
  have T1 := D.below B1
  go_wp2_with (fail)
  refine (p1 _).mono ?_
  rintro e w2 ⟨rfl, hb⟩
  have B2 := below_step B1 hb B1.size
  have B2 := below_step B2 (below_new w2 (.cells #[.int .i64 s, .int .i64 k, .int .i64 a, .int .i64 f, .bool false] 41)) B2.size
  clear hb
  have C1 := cb_new w2 s k a f false 41
  obtain ⟨d0, d1, d2, d3, d4⟩ := id C1.1
  have T2 := D.below B2
  go_wp2_with (fail)
  refine (tx _ T2).mono ?_
  rintro e w3 ⟨rfl, hb⟩
  have B3 := below_step B2 hb B2.size
  clear hb C1 d0 d1 d2 d3 d4
  go_wp2_with (fail)
  refine (p2 _).mono ?_
  rintro e w4 ⟨rfl, hb⟩
  have B4 := below_step B3 hb B3.size
  have B4 := below_step B4 (below_new w4 (.cells #[.int .i64 sA, .int .i64 kA, .int .i64 aA, .int .i64 fA, .bool xA] 41)) B4.size
  clear hb
  go_wp2_with (fail)
  refine (p3 _).mono ?_
  rintro e w5 ⟨rfl, hb⟩
  have B5 := below_step B4 hb B4.size
  have B5 := below_step B5 (below_new w5 (.cells #[.int .i64 0, .int .i64 0, .int .i64 0, .int .i64 0, .bool false] 41)) B5.size
  clear hb
  go_wp2_with (fail)
  refine (p4 _).mono ?_
  rintro e w6 ⟨rfl, hb⟩
  have B6 := below_step B5 hb B5.size
  have B6 := below_step B6 (below_new w6 (.cells #[.int .i64 cs, .int .i64 ck, .int .i64 ca, .int .i64 cf, .bool cx] 41)) B6.size
  clear hb
  go_wp2_with (fail)
  refine (sx _).mono ?_
  rintro e w' ⟨rfl, rfl⟩
  go_wp2
  go_ret
  exact ⟨ret_b (by simp; omega), B6⟩
set_option maxHeartbeats 2000000 in
theorem cparses_false_gt (t : ByteArray) (w : World) (D : Tab w) (h : ¬ 100 < t.size) (h0 : 0 < t.size) (s k a f : Int) (hp : parC t.data.toList = ⟨s, k, a, f, false, 0⟩) (sA kA aA fA : Int) (xA : Bool) (hA : parC (t.data.toList ++ [88]) = ⟨sA, kA, aA, fA, xA, 0⟩) (hB : parC (t.data.toList ++ [32]) = noC 5) (cs ck ca cf : Int) (cx : Bool) (hC : parC (80 :: t.data.toList) = ⟨cs, ck, ca, cf, cx, 0⟩) (hx : sufB 88 t.data.toList = false) (z1 : 86 < (t[0].toNat : Int)) :
    Calls Tryd.prog 9 #[.string t] w fun e w' => e = .returned (.bool true) ∧ Below w.heap.size w w' := by
  have g1 : ¬ (100 : Int) < t.size := by omega
  have g0 : (0 : Int) < t.size := by omega
  have n1 : ¬ 9223372036854775807 < t.size + 1 := by omega
  have n2 : ¬ 9223372036854775807 < 1 + t.size := by omega
  obtain ⟨hc, ht⟩ := txt_par hp
  have p1 := fun w => parse_v t w (by omega) s k a f 0 false hp
  have p2 := fun w => parse_v (t ++ ⟨#[88]⟩) w (by rw [ByteArray.size_append]; show t.size + 1 ≤ 4611686018427387904; omega) sA kA aA fA 0 xA (by rw [show (⟨#[88]⟩ : ByteArray) = ⟨([88] : List UInt8).toArray⟩ from rfl, data_app]; exact hA)
  have p3 := fun w => parse_v (t ++ ⟨#[32]⟩) w (by rw [ByteArray.size_append]; show t.size + 1 ≤ 4611686018427387904; omega) 0 0 0 0 5 false (by rw [show (⟨#[32]⟩ : ByteArray) = ⟨([32] : List UInt8).toArray⟩ from rfl, data_app]; exact hB)
  have p4 := fun w => parse_v (⟨#[80]⟩ ++ t) w (by rw [ByteArray.size_append]; show 1 + t.size ≤ 4611686018427387904; omega) cs ck ca cf 0 cx (by rw [show (⟨#[80]⟩ : ByteArray) = ⟨([80] : List UInt8).toArray⟩ from rfl, app_data]; exact hC)
  have tx := fun w D => text_v s k a f false t w D hc ht
  have sx := hasX t false hx (by omega)
  have z3 : ¬ (t[0].toNat : Int) < 80 := by omega
  clear hp hA hB hC hx hc ht
  have C0 := fun w D => codes_any w D
  go_enter Tryd.func9, Tryd.ntmps9
  go_wp2_with (fail)
  refine (C0 _ D).mono ?_
  rintro e w1 ⟨rfl, B1⟩
  have T1 := D.below B1
  go_wp2_with (fail)
  refine (p1 _).mono ?_
  rintro e w2 ⟨rfl, hb⟩
  have B2 := below_step B1 hb B1.size
  have B2 := below_step B2 (below_new w2 (.cells #[.int .i64 s, .int .i64 k, .int .i64 a, .int .i64 f, .bool false] 41)) B2.size
  clear hb
  have C1 := cb_new w2 s k a f false 41
  obtain ⟨d0, d1, d2, d3, d4⟩ := id C1.1
  have T2 := D.below B2
  go_wp2_with (fail)
  refine (tx _ T2).mono ?_
  rintro e w3 ⟨rfl, hb⟩
  have B3 := below_step B2 hb B2.size
  clear hb C1 d0 d1 d2 d3 d4
  go_wp2_with (fail)
  refine (p2 _).mono ?_
  rintro e w4 ⟨rfl, hb⟩
  have B4 := below_step B3 hb B3.size
  have B4 := below_step B4 (below_new w4 (.cells #[.int .i64 sA, .int .i64 kA, .int .i64 aA, .int .i64 fA, .bool xA] 41)) B4.size
  clear hb
  go_wp2_with (fail)
  refine (p3 _).mono ?_
  rintro e w5 ⟨rfl, hb⟩
  have B5 := below_step B4 hb B4.size
  have B5 := below_step B5 (below_new w5 (.cells #[.int .i64 0, .int .i64 0, .int .i64 0, .int .i64 0, .bool false] 41)) B5.size
  clear hb
  go_wp2_with (fail)
  refine (p4 _).mono ?_
  rintro e w6 ⟨rfl, hb⟩
  have B6 := below_step B5 hb B5.size
  have B6 := below_step B6 (below_new w6 (.cells #[.int .i64 cs, .int .i64 ck, .int .i64 ca, .int .i64 cf, .bool cx] 41)) B6.size
  clear hb
  go_wp2_with (fail)
  refine (sx _).mono ?_
  rintro e w' ⟨rfl, rfl⟩
  go_wp2
  go_ret
  exact ⟨ret_b (by simp; omega), B6⟩
set_option maxHeartbeats 2000000 in
theorem cparses_true_lt (t : ByteArray) (w : World) (D : Tab w) (h : ¬ 100 < t.size) (h0 : 0 < t.size) (s k a f : Int) (hp : parC t.data.toList = ⟨s, k, a, f, true, 0⟩) (sA kA aA fA : Int) (xA : Bool) (hA : parC (t.data.toList ++ [88]) = ⟨sA, kA, aA, fA, xA, 5⟩) (hB : parC (t.data.toList ++ [32]) = noC 5) (cs ck ca cf : Int) (cx : Bool) (hC : parC (80 :: t.data.toList) = ⟨cs, ck, ca, cf, cx, 0⟩) (hx : sufB 88 t.data.toList = true) (z1 : (t[0].toNat : Int) < 80) :
    Calls Tryd.prog 9 #[.string t] w fun e w' => e = .returned (.bool true) ∧ Below w.heap.size w w' := by
  have g1 : ¬ (100 : Int) < t.size := by omega
  have g0 : (0 : Int) < t.size := by omega
  have n1 : ¬ 9223372036854775807 < t.size + 1 := by omega
  have n2 : ¬ 9223372036854775807 < 1 + t.size := by omega
  obtain ⟨hc, ht⟩ := txt_par hp
  have p1 := fun w => parse_v t w (by omega) s k a f 0 true hp
  have p2 := fun w => parse_v (t ++ ⟨#[88]⟩) w (by rw [ByteArray.size_append]; show t.size + 1 ≤ 4611686018427387904; omega) sA kA aA fA 5 xA (by rw [show (⟨#[88]⟩ : ByteArray) = ⟨([88] : List UInt8).toArray⟩ from rfl, data_app]; exact hA)
  have p3 := fun w => parse_v (t ++ ⟨#[32]⟩) w (by rw [ByteArray.size_append]; show t.size + 1 ≤ 4611686018427387904; omega) 0 0 0 0 5 false (by rw [show (⟨#[32]⟩ : ByteArray) = ⟨([32] : List UInt8).toArray⟩ from rfl, data_app]; exact hB)
  have p4 := fun w => parse_v (⟨#[80]⟩ ++ t) w (by rw [ByteArray.size_append]; show 1 + t.size ≤ 4611686018427387904; omega) cs ck ca cf 0 cx (by rw [show (⟨#[80]⟩ : ByteArray) = ⟨([80] : List UInt8).toArray⟩ from rfl, app_data]; exact hC)
  have tx := fun w D => text_v s k a f true t w D hc ht
  have sx := hasX t true hx (by omega)
  clear hp hA hB hC hx hc ht
  have C0 := fun w D => codes_any w D
  go_enter Tryd.func9, Tryd.ntmps9
  go_wp2_with (fail)
  refine (C0 _ D).mono ?_
  rintro e w1 ⟨rfl, B1⟩
  have T1 := D.below B1
  go_wp2_with (fail)
  refine (p1 _).mono ?_
  rintro e w2 ⟨rfl, hb⟩
  have B2 := below_step B1 hb B1.size
  have B2 := below_step B2 (below_new w2 (.cells #[.int .i64 s, .int .i64 k, .int .i64 a, .int .i64 f, .bool true] 41)) B2.size
  clear hb
  have C1 := cb_new w2 s k a f true 41
  obtain ⟨d0, d1, d2, d3, d4⟩ := id C1.1
  have T2 := D.below B2
  go_wp2_with (fail)
  refine (tx _ T2).mono ?_
  rintro e w3 ⟨rfl, hb⟩
  have B3 := below_step B2 hb B2.size
  clear hb C1 d0 d1 d2 d3 d4
  go_wp2_with (fail)
  refine (p2 _).mono ?_
  rintro e w4 ⟨rfl, hb⟩
  have B4 := below_step B3 hb B3.size
  have B4 := below_step B4 (below_new w4 (.cells #[.int .i64 sA, .int .i64 kA, .int .i64 aA, .int .i64 fA, .bool xA] 41)) B4.size
  clear hb
  go_wp2_with (fail)
  refine (p3 _).mono ?_
  rintro e w5 ⟨rfl, hb⟩
  have B5 := below_step B4 hb B4.size
  have B5 := below_step B5 (below_new w5 (.cells #[.int .i64 0, .int .i64 0, .int .i64 0, .int .i64 0, .bool false] 41)) B5.size
  clear hb
  go_wp2_with (fail)
  refine (p4 _).mono ?_
  rintro e w6 ⟨rfl, hb⟩
  have B6 := below_step B5 hb B5.size
  have B6 := below_step B6 (below_new w6 (.cells #[.int .i64 cs, .int .i64 ck, .int .i64 ca, .int .i64 cf, .bool cx] 41)) B6.size
  clear hb
  go_wp2_with (fail)
  refine (sx _).mono ?_
  rintro e w' ⟨rfl, rfl⟩
  go_wp2
  go_ret
  exact ⟨rfl, B6⟩
set_option maxHeartbeats 2000000 in
theorem cparses_true_mid (t : ByteArray) (w : World) (D : Tab w) (h : ¬ 100 < t.size) (h0 : 0 < t.size) (s k a f : Int) (hp : parC t.data.toList = ⟨s, k, a, f, true, 0⟩) (sA kA aA fA : Int) (xA : Bool) (hA : parC (t.data.toList ++ [88]) = ⟨sA, kA, aA, fA, xA, 5⟩) (hB : parC (t.data.toList ++ [32]) = noC 5) (cs ck ca cf : Int) (cx : Bool) (hC : parC (80 :: t.data.toList) = ⟨cs, ck, ca, cf, cx, 5⟩) (hx : sufB 88 t.data.toList = true) (z1 : 80 ≤ (t[0].toNat : Int)) (z2 : (t[0].toNat : Int) ≤ 86) :
    Calls Tryd.prog 9 #[.string t] w fun e w' => e = .returned (.bool true) ∧ Below w.heap.size w w' := by
  have g1 : ¬ (100 : Int) < t.size := by omega
  have g0 : (0 : Int) < t.size := by omega
  have n1 : ¬ 9223372036854775807 < t.size + 1 := by omega
  have n2 : ¬ 9223372036854775807 < 1 + t.size := by omega
  obtain ⟨hc, ht⟩ := txt_par hp
  have p1 := fun w => parse_v t w (by omega) s k a f 0 true hp
  have p2 := fun w => parse_v (t ++ ⟨#[88]⟩) w (by rw [ByteArray.size_append]; show t.size + 1 ≤ 4611686018427387904; omega) sA kA aA fA 5 xA (by rw [show (⟨#[88]⟩ : ByteArray) = ⟨([88] : List UInt8).toArray⟩ from rfl, data_app]; exact hA)
  have p3 := fun w => parse_v (t ++ ⟨#[32]⟩) w (by rw [ByteArray.size_append]; show t.size + 1 ≤ 4611686018427387904; omega) 0 0 0 0 5 false (by rw [show (⟨#[32]⟩ : ByteArray) = ⟨([32] : List UInt8).toArray⟩ from rfl, data_app]; exact hB)
  have p4 := fun w => parse_v (⟨#[80]⟩ ++ t) w (by rw [ByteArray.size_append]; show 1 + t.size ≤ 4611686018427387904; omega) cs ck ca cf 5 cx (by rw [show (⟨#[80]⟩ : ByteArray) = ⟨([80] : List UInt8).toArray⟩ from rfl, app_data]; exact hC)
  have tx := fun w D => text_v s k a f true t w D hc ht
  have sx := hasX t true hx (by omega)
  have z3 : ¬ (t[0].toNat : Int) < 80 := by omega
  have z4 : ¬ 86 < (t[0].toNat : Int) := by omega
  clear hp hA hB hC hx hc ht
  have C0 := fun w D => codes_any w D
  go_enter Tryd.func9, Tryd.ntmps9
  go_wp2_with (fail)
  refine (C0 _ D).mono ?_
  rintro e w1 ⟨rfl, B1⟩
  have T1 := D.below B1
  go_wp2_with (fail)
  refine (p1 _).mono ?_
  rintro e w2 ⟨rfl, hb⟩
  have B2 := below_step B1 hb B1.size
  have B2 := below_step B2 (below_new w2 (.cells #[.int .i64 s, .int .i64 k, .int .i64 a, .int .i64 f, .bool true] 41)) B2.size
  clear hb
  have C1 := cb_new w2 s k a f true 41
  obtain ⟨d0, d1, d2, d3, d4⟩ := id C1.1
  have T2 := D.below B2
  go_wp2_with (fail)
  refine (tx _ T2).mono ?_
  rintro e w3 ⟨rfl, hb⟩
  have B3 := below_step B2 hb B2.size
  clear hb C1 d0 d1 d2 d3 d4
  go_wp2_with (fail)
  refine (p2 _).mono ?_
  rintro e w4 ⟨rfl, hb⟩
  have B4 := below_step B3 hb B3.size
  have B4 := below_step B4 (below_new w4 (.cells #[.int .i64 sA, .int .i64 kA, .int .i64 aA, .int .i64 fA, .bool xA] 41)) B4.size
  clear hb
  go_wp2_with (fail)
  refine (p3 _).mono ?_
  rintro e w5 ⟨rfl, hb⟩
  have B5 := below_step B4 hb B4.size
  have B5 := below_step B5 (below_new w5 (.cells #[.int .i64 0, .int .i64 0, .int .i64 0, .int .i64 0, .bool false] 41)) B5.size
  clear hb
  go_wp2_with (fail)
  refine (p4 _).mono ?_
  rintro e w6 ⟨rfl, hb⟩
  have B6 := below_step B5 hb B5.size
  have B6 := below_step B6 (below_new w6 (.cells #[.int .i64 cs, .int .i64 ck, .int .i64 ca, .int .i64 cf, .bool cx] 41)) B6.size
  clear hb
  go_wp2_with (fail)
  refine (sx _).mono ?_
  rintro e w' ⟨rfl, rfl⟩
  go_wp2
  go_ret
  exact ⟨ret_b (by simp; omega), B6⟩
set_option maxHeartbeats 2000000 in
theorem cparses_true_gt (t : ByteArray) (w : World) (D : Tab w) (h : ¬ 100 < t.size) (h0 : 0 < t.size) (s k a f : Int) (hp : parC t.data.toList = ⟨s, k, a, f, true, 0⟩) (sA kA aA fA : Int) (xA : Bool) (hA : parC (t.data.toList ++ [88]) = ⟨sA, kA, aA, fA, xA, 5⟩) (hB : parC (t.data.toList ++ [32]) = noC 5) (cs ck ca cf : Int) (cx : Bool) (hC : parC (80 :: t.data.toList) = ⟨cs, ck, ca, cf, cx, 0⟩) (hx : sufB 88 t.data.toList = true) (z1 : 86 < (t[0].toNat : Int)) :
    Calls Tryd.prog 9 #[.string t] w fun e w' => e = .returned (.bool true) ∧ Below w.heap.size w w' := by
  have g1 : ¬ (100 : Int) < t.size := by omega
  have g0 : (0 : Int) < t.size := by omega
  have n1 : ¬ 9223372036854775807 < t.size + 1 := by omega
  have n2 : ¬ 9223372036854775807 < 1 + t.size := by omega
  obtain ⟨hc, ht⟩ := txt_par hp
  have p1 := fun w => parse_v t w (by omega) s k a f 0 true hp
  have p2 := fun w => parse_v (t ++ ⟨#[88]⟩) w (by rw [ByteArray.size_append]; show t.size + 1 ≤ 4611686018427387904; omega) sA kA aA fA 5 xA (by rw [show (⟨#[88]⟩ : ByteArray) = ⟨([88] : List UInt8).toArray⟩ from rfl, data_app]; exact hA)
  have p3 := fun w => parse_v (t ++ ⟨#[32]⟩) w (by rw [ByteArray.size_append]; show t.size + 1 ≤ 4611686018427387904; omega) 0 0 0 0 5 false (by rw [show (⟨#[32]⟩ : ByteArray) = ⟨([32] : List UInt8).toArray⟩ from rfl, data_app]; exact hB)
  have p4 := fun w => parse_v (⟨#[80]⟩ ++ t) w (by rw [ByteArray.size_append]; show 1 + t.size ≤ 4611686018427387904; omega) cs ck ca cf 0 cx (by rw [show (⟨#[80]⟩ : ByteArray) = ⟨([80] : List UInt8).toArray⟩ from rfl, app_data]; exact hC)
  have tx := fun w D => text_v s k a f true t w D hc ht
  have sx := hasX t true hx (by omega)
  have z3 : ¬ (t[0].toNat : Int) < 80 := by omega
  clear hp hA hB hC hx hc ht
  have C0 := fun w D => codes_any w D
  go_enter Tryd.func9, Tryd.ntmps9
  go_wp2_with (fail)
  refine (C0 _ D).mono ?_
  rintro e w1 ⟨rfl, B1⟩
  have T1 := D.below B1
  go_wp2_with (fail)
  refine (p1 _).mono ?_
  rintro e w2 ⟨rfl, hb⟩
  have B2 := below_step B1 hb B1.size
  have B2 := below_step B2 (below_new w2 (.cells #[.int .i64 s, .int .i64 k, .int .i64 a, .int .i64 f, .bool true] 41)) B2.size
  clear hb
  have C1 := cb_new w2 s k a f true 41
  obtain ⟨d0, d1, d2, d3, d4⟩ := id C1.1
  have T2 := D.below B2
  go_wp2_with (fail)
  refine (tx _ T2).mono ?_
  rintro e w3 ⟨rfl, hb⟩
  have B3 := below_step B2 hb B2.size
  clear hb C1 d0 d1 d2 d3 d4
  go_wp2_with (fail)
  refine (p2 _).mono ?_
  rintro e w4 ⟨rfl, hb⟩
  have B4 := below_step B3 hb B3.size
  have B4 := below_step B4 (below_new w4 (.cells #[.int .i64 sA, .int .i64 kA, .int .i64 aA, .int .i64 fA, .bool xA] 41)) B4.size
  clear hb
  go_wp2_with (fail)
  refine (p3 _).mono ?_
  rintro e w5 ⟨rfl, hb⟩
  have B5 := below_step B4 hb B4.size
  have B5 := below_step B5 (below_new w5 (.cells #[.int .i64 0, .int .i64 0, .int .i64 0, .int .i64 0, .bool false] 41)) B5.size
  clear hb
  go_wp2_with (fail)
  refine (p4 _).mono ?_
  rintro e w6 ⟨rfl, hb⟩
  have B6 := below_step B5 hb B5.size
  have B6 := below_step B6 (below_new w6 (.cells #[.int .i64 cs, .int .i64 ck, .int .i64 ca, .int .i64 cf, .bool cx] 41)) B6.size
  clear hb
  go_wp2_with (fail)
  refine (sx _).mono ?_
  rintro e w' ⟨rfl, rfl⟩
  go_wp2
  go_ret
  exact ⟨ret_b (by simp; omega), B6⟩
theorem wCodeParses (t : ByteArray) (w : World) (D : Tab w) (hs : t.size ≤ 9223372036854775807) :
    Calls Tryd.prog 9 #[.string t] w fun e w' => e = .returned (.bool true) ∧ Below w.heap.size w w' := by
  by_cases h : 100 < t.size
  · exact cparses_long t w D hs h
  rcases par_err t.data.toList with ⟨s, k, a, f, x, hp⟩ | hp | hp
  · obtain ⟨hx, q, hA, he⟩ := par_x hp
    have hB := par_blank hp
    have h0 : 0 < t.size := by
      rcases Nat.eq_zero_or_pos t.size with h0 | h0
      · rw [List.length_eq_zero_iff.1 (show t.data.toList.length = 0 by simp [h0])] at hp
        have : parC [] = noC 5 := rfl
        rw [this] at hp
        simp [noC] at hp
      · exact h0
    have hcons := cons_of t h0
    have hp' := hp
    rw [hcons] at hp'
    have hC := par_P hp'
    rw [← hcons] at hC
    have eA := hA.trans (cv_eta q)
    have eC := cv_eta (parC (80 :: t.data.toList))
    rw [he] at eA
    cases x
    all_goals
      rcases (show (t[0].toNat : Int) < (80 : Int) ∨ ((80 : Int) ≤ (t[0].toNat : Int) ∧ (t[0].toNat : Int) ≤ (86 : Int)) ∨ (86 : Int) < (t[0].toNat : Int) by omega) with z | ⟨z1, z2⟩ | z
      · rw [if_neg (by omega)] at hC
        rw [hC] at eC
        first | exact cparses_false_lt t w D h h0 _ _ _ _ hp _ _ _ _ _ eA hB _ _ _ _ _ eC hx z | exact cparses_true_lt t w D h h0 _ _ _ _ hp _ _ _ _ _ eA hB _ _ _ _ _ eC hx z
      · rw [if_pos ⟨z1, z2⟩] at hC
        rw [hC] at eC
        first | exact cparses_false_mid t w D h h0 _ _ _ _ hp _ _ _ _ _ eA hB _ _ _ _ _ eC hx z1 z2 | exact cparses_true_mid t w D h h0 _ _ _ _ hp _ _ _ _ _ eA hB _ _ _ _ _ eC hx z1 z2
      · rw [if_neg (by omega)] at hC
        rw [hC] at eC
        first | exact cparses_false_gt t w D h h0 _ _ _ _ hp _ _ _ _ _ eA hB _ _ _ _ _ eC hx z | exact cparses_true_gt t w D h h0 _ _ _ _ hp _ _ _ _ _ eA hB _ _ _ _ _ eC hx z
  · exact cparses_bad t w D h 5 (.inl rfl) hp
  · exact cparses_bad t w D h 80 (.inr rfl) hp
end Go.Proofs.YthndkplmhpbgdaaDoor
