/- What pair.Add and pair.Sub answer of pairs that are no pairs beyond the most: sums on the way, what is rounded refused. -/
import Derived.Test.YtkiefceomgbbhaaPairE
set_option linter.unusedVariables false
namespace Go.Proofs.Ytkiefceomgbbhaa
open Go.RowKit Go.Sort Go.Op
theorem neg_mod (b : Nat) : (negFloat .f64 b) % 9223372036854775808 = b % 9223372036854775808 := by
  show (b ^^^ 2 ^ 63) % 2 ^ 63 = b % 2 ^ 63
  rw [Nat.xor_mod_two_pow]; simp
theorem neg_sign (b : Nat) : ((negFloat .f64 b) / 9223372036854775808 % 2 == 1) = !(b / 9223372036854775808 % 2 == 1) := by
  show ((b ^^^ 2 ^ 63) / 2 ^ 63 % 2 == 1) = !(b / 2 ^ 63 % 2 == 1)
  rw [Nat.xor_div_two_pow, show 2 ^ 63 / 2 ^ 63 = 1 from rfl]
  generalize b / 2 ^ 63 = q
  have h2 : (q ^^^ 1) % 2 ^ 1 = q % 2 ^ 1 ^^^ 1 % 2 ^ 1 := Nat.xor_mod_two_pow
  rw [show (2 : Nat) ^ 1 = 2 from rfl] at h2
  rw [h2]
  have : q % 2 = 0 ∨ q % 2 = 1 := by omega
  rcases this with h | h <;> rw [h] <;> rfl
theorem neg_read (b : Nat) (s : Bool) (m : Nat) (e : Int) (h : Ieee.double.read b = .number s m e) : Ieee.double.read (negFloat .f64 b) = .number (!s) m e := by
  have e1 : Ieee.double.signWeight = 9223372036854775808 := rfl
  unfold Ieee.Format.read at h ⊢
  simp only [e1, neg_mod, neg_sign] at h ⊢
  generalize (b / 9223372036854775808 % 2 == 1) = q at *
  generalize b % 9223372036854775808 = r at *
  by_cases k1 : r < Ieee.double.binade
  · rw [if_pos k1] at h ⊢
    simp only [Ieee.Datum.number.injEq] at h ⊢
    exact ⟨by rw [h.1], h.2⟩
  · rw [if_neg k1] at h ⊢
    by_cases k2 : r < Ieee.double.infRung
    · rw [if_pos k2] at h ⊢
      simp only [Ieee.Datum.number.injEq] at h ⊢
      exact ⟨by rw [h.1], h.2⟩
    · rw [if_neg k2] at h
      split at h <;> simp at h
theorem neg_is {b : Nat} {n : Int} (h : Is b n) : Is (negFloat .f64 b) (-n) := by
  have h2 := isd_opp (is_d h)
  obtain ⟨s, m, e, r, _⟩ := id h
  have h3 := neg_read b s m e r
  show IsD (Ieee.double.read (negFloat .f64 b)) (-n)
  rw [h3]
  rw [r] at h2
  exact h2
def okS (X Y : Nat → Int) : Nat → Bool
  | 0 => true
  | k + 1 => okS X Y k && (sdB (tsm X k + X k) && sdB (tsm Y k + Y k))
theorem okS_sd {X Y : Nat → Int} {k : Nat} (h : okS X Y k = true) : sdB (tsm X k) = true ∧ sdB (tsm Y k) = true := by
  cases k with
  | zero => exact ⟨rfl, rfl⟩
  | succ k =>
    simp only [okS, Bool.and_eq_true] at h
    exact ⟨h.2.1, h.2.2⟩
theorem okS_stop {X Y : Nat → Int} {k n : Nat} (hk : k < n) (h : okS X Y (k + 1) = false) : okS X Y n = false := by
  obtain ⟨m, rfl⟩ : ∃ m, n = k + 1 + m := ⟨n - k - 1, by omega⟩
  induction m with
  | zero => exact h
  | succ m ih =>
    have := ih (by omega)
    show (okS X Y (k + 1 + m) && _) = false
    rw [this]; rfl
/-- two words' sum; that of the first ones -/
def fa (x u : Nat) : Nat := (floatBits .add .f64 x u).getD 0
def rs (z : Nat → Nat) : Nat → Nat
  | 0 => 0
  | k + 1 => fa (rs z k) (z k)
/-- one side of a round: what comes of it, and whether it leads back -/
theorem side_round {x u : Nat} {a c : Int} (h1 : Is x a) (h2 : Is u c) (ha : sdB a = true) (hc : sdB c = true) :
    ∃ n, floatBits .add .f64 x u = some (fa x u) ∧ Is (fa x u) n ∧ (sdB (a + c) = true → n = a + c) ∧ (sdB n = true → ∃ q, floatBits .sub .f64 (fa x u) u = some q ∧ (FloatKind.f64.format.order q x == some .eq) = sdB (a + c)) := by
  obtain ⟨a1, a2⟩ := sdB_yes ha
  obtain ⟨c1, c2⟩ := sdB_yes hc
  obtain ⟨r, n, e1, i1, p1, p2⟩ := add_is h1 h2 (by omega) (by omega)
  have er : fa x u = r := by
    have e2 : floatBits .add .f64 x u = some r := e1
    unfold fa; rw [e2]; rfl
  rw [er]
  refine ⟨n, e1, i1, fun h => p1 (by have := sdB_yes h; omega), fun hn => ?_⟩
  obtain ⟨n1, n2⟩ := sdB_yes hn
  obtain ⟨q, m, e2, i2, q1, q2⟩ := sub_is i1 h2 (by omega) (by omega)
  refine ⟨q, e2, ?_⟩
  cases hs : sdB (a + c)
  · have hs2 := sdB_no hs
    obtain ⟨p3, p4⟩ := p2 (by omega)
    have hm : m = n - c := q1 (by omega)
    have hne : m ≠ a := by omega
    rw [show FloatKind.f64.format.order q x = some (compare m a) from order_is i2 h1]
    rcases Int.lt_trichotomy m a with h | h | h
    · rw [Int.compare_eq_lt.2 h]; rfl
    · exact absurd h hne
    · rw [Int.compare_eq_gt.2 h]; rfl
  · have hs2 := sdB_yes hs
    have hn0 := p1 (by omega)
    have hm : m = n - c := q1 (by omega)
    rw [order_eq i2 h1 (by omega)]
    rfl
/-- a round of Add -/
theorem pair_round {x y u v : Nat} {a b c d : Int} (h1 : Is x a) (h2 : Is y b) (h3 : Is u c) (h4 : Is v d) (ha : sdB a = true) (hb : sdB b = true) (hc : sdB c = true) (hd : sdB d = true) :
    (∀ (P : Program) W t, (binOp .add t (.complex .f64 x y) (.complex .f64 u v)).run P W = .ok (.complex .f64 (fa x u) (fa y v)) W) ∧ ∃ n m, Is (fa x u) n ∧ Is (fa y v) m ∧
      ((sdB (a + c) && sdB (b + d)) = true → n = a + c ∧ m = b + d) ∧
      ((sdB n && sdB m) = true → ∃ r' q', (∀ (P : Program) W t, (binOp .sub t (.complex .f64 (fa x u) (fa y v)) (.complex .f64 u v)).run P W = .ok (.complex .f64 r' q') W) ∧
        ((FloatKind.f64.format.order r' x == some .eq) && (FloatKind.f64.format.order q' y == some .eq)) = (sdB (a + c) && sdB (b + d))) := by
  obtain ⟨n, e1, i1, p1, s1⟩ := side_round h1 h3 ha hc
  obtain ⟨m, e2, i2, p2, s2⟩ := side_round h2 h4 hb hd
  refine ⟨fun P W t => run_complex_sum (P := P) W .add (.inl rfl) t .f64 x y u v _ _ (by unfold cSumBits; rw [e1, e2]; rfl), n, m, i1, i2, fun h => ?_, fun h => ?_⟩
  · obtain ⟨k1, k2⟩ := Bool.and_eq_true_iff.1 h
    exact ⟨p1 k1, p2 k2⟩
  · obtain ⟨k1, k2⟩ := Bool.and_eq_true_iff.1 h
    obtain ⟨r', f1, o1⟩ := s1 k1
    obtain ⟨q', f2, o2⟩ := s2 k2
    refine ⟨r', q', fun P W t => run_complex_sum (P := P) W .sub (.inr rfl) t .f64 _ _ u v r' q' (by unfold cSumBits; rw [f1, f2]; rfl), by rw [o1, o2]⟩
theorem is0 : Is 0 0 := ⟨false, 0, -1074, rfl, fun _ => zero_any _, fun h => by omega, fun h => absurd rfl h⟩
theorem rs_is {X Y : Nat → Int} {zx zy : Nat → Nat} {n : Nat} (hX : ∀ i, i < n → Is (zx i) (X i) ∧ Is (zy i) (Y i) ∧ sdB (X i) = true ∧ sdB (Y i) = true) {k : Nat} (hk : k ≤ n) (h : okS X Y k = true) : Is (rs zx k) (tsm X k) ∧ Is (rs zy k) (tsm Y k) := by
  induction k with
  | zero => exact ⟨is0, is0⟩
  | succ k ih =>
    have h0 : okS X Y k = true := by simp only [okS, Bool.and_eq_true] at h; exact h.1
    have h1 : (sdB (tsm X k + X k) && sdB (tsm Y k + Y k)) = true := by simp only [okS, Bool.and_eq_true] at h ⊢; exact h.2
    obtain ⟨ir, iq⟩ := ih (by omega) h0
    obtain ⟨s1, s2⟩ := okS_sd h0
    obtain ⟨x1, x2, x3, x4⟩ := hX k (by omega)
    obtain ⟨_, n2, m2, i1, i2, hex, _⟩ := pair_round ir iq x1 x2 s1 s2 x3 x4
    obtain ⟨e1, e2⟩ := hex h1
    rw [e1] at i1
    rw [e2] at i2
    exact ⟨i1, i2⟩
def addV (X Y : Nat → Int) (zx zy : Nat → Nat) (n : Nat) : Value := .tuple #[.complex .f64 (if okS X Y n = true then rs zx n else 0) (if okS X Y n = true then rs zy n else 0), .int .i64 (if okS X Y n = true then 0 else 10)]
theorem addV_no {X Y : Nat → Int} {zx zy : Nat → Nat} {n : Nat} (h : okS X Y n = false) : Value.tuple #[.complex .f64 0 0, .int .i64 10] = addV X Y zx zy n := by simp [addV, h]
theorem addV_yes {X Y : Nat → Int} {zx zy : Nat → Nat} {n : Nat} (h : okS X Y n = true) : Value.tuple #[.complex .f64 (rs zx n) (rs zy n), .int .i64 0] = addV X Y zx zy n := by simp [addV, h]
/-- a slice's pairs, wherever they lie -/
def Cxs (w : World) (A : Option Addr) (n : Nat) (zx zy : Nat → Nat) : Prop :=
  0 < n → ∃ b o, A = some ⟨b, o, none⟩ ∧ ∀ i, i < n → w.cell? ⟨b, o + i, none⟩ = some (.complex .f64 (zx i) (zy i))
theorem Cxs.below {w w' : World} {A : Option Addr} {n : Nat} {X Y : Nat → Nat} (h : Cxs w A n X Y) (hb : Below w.heap.size w w') : Cxs w' A n X Y := fun hn => by
  obtain ⟨b, o, e, hc⟩ := h hn
  exact ⟨b, o, e, fun i hi => cell_later hb (hc i hi)⟩
set_option maxHeartbeats 8000000 in
set_option maxRecDepth 100000 in
theorem padd_any (A : Option Addr) (n c : Nat) (w : World) (X Y : Nat → Int) (zx zy : Nat → Nat) (h : Cxs w A n zx zy) (hX : ∀ i, i < n → Is (zx i) (X i) ∧ Is (zy i) (Y i) ∧ sdB (X i) = true ∧ sdB (Y i) = true) (hn : n ≤ 4611686018427387904) :
    Calls Try.prog 35 #[.slice A n c] w fun e w' => e = .returned (addV X Y zx zy n) ∧ w = w' := by
  have hN : ∀ k, k < n → okS X Y (k + 1) = false → okS X Y n = false := fun k hk h => okS_stop hk h
  go_enter Try.func35, Try.ntmps35
  go_wp2
  go_loopw [10, 4] (fun v s W => ∃ i : Nat, i ≤ n ∧ v = .int .i64 i ∧ s = .complex .f64 (rs zx i) (rs zy i) ∧ okS X Y i = true ∧ w = W) (fun v _ _ => n - (intOf v).toNat)
  case atStart => exact ⟨0, Nat.zero_le _, rfl, rfl, rfl, rfl⟩
  case round =>
    obtain ⟨i, hi, rfl, rfl, hok, rfl⟩ := hrel
    obtain ⟨ir, iq⟩ := rs_is hX hi hok
    obtain ⟨sm1, sm2⟩ := okS_sd hok
    by_cases hlt : i < n
    · obtain ⟨b, o, rfl, hc⟩ := h (by omega)
      have c0 := hc i hlt
      obtain ⟨x1, x2, x3, x4⟩ := hX i hlt
      have cP := pright_b (zx i) (zy i) (X i) (Y i) true x1 x2 (by rw [x3, x4]; rfl)
      obtain ⟨hadd, n2, m2, i1, i2, hex, hback⟩ := pair_round ir iq x1 x2 sm1 sm2 x3 x4
      have hadd2 := fun W => hadd Try.prog W 48
      have HSU : Hid (okS X Y (i + 1) = (sdB (tsm X i + X i) && sdB (tsm Y i + Y i))) := Lib.hid (by show (okS X Y i && _) = _; rw [hok]; rfl)
      have HN2 := Lib.hid (hN i hlt)
      have HT : Hid (tsm X (i + 1) = tsm X i + X i ∧ tsm Y (i + 1) = tsm Y i + Y i) := Lib.hid ⟨rfl, rfl⟩
      have HI1 := Lib.hid i1
      have HI2 := Lib.hid i2
      have HEX := Lib.hid hex
      have HB := Lib.hid hback
      have HR : Hid (rs zx (i + 1) = fa (rs zx i) (zx i) ∧ rs zy (i + 1) = fa (rs zy i) (zy i)) := Lib.hid ⟨rfl, rfl⟩
      generalize fa (rs zx i) (zx i) = r2 at *
      generalize fa (rs zy i) (zy i) = q2 at *
      generalize rs zx i = r at *
      generalize rs zy i = q at *
      generalize zx i = zxi at *
      generalize zy i = zyi at *
      clear hok hN h hX hc ir iq sm1 sm2 x1 x2 x3 x4 hadd hex hback
      cases hR : sdB n2 && sdB m2
      · have cT := pright_b r2 q2 n2 m2 false i1 i2 hR
        have hok2 : (sdB (tsm X i + X i) && sdB (tsm Y i + Y i)) = false := by
          cases hz : (sdB (tsm X i + X i) && sdB (tsm Y i + Y i))
          · rfl
          · obtain ⟨y1, y2⟩ := HEX.out hz
            rw [y1, y2, hz] at hR; simp at hR
        have HNO := Lib.hid (HN2.out (by rw [HSU.out, hok2]))
        clear hR i1 i2 hok2
        go_wp2_with (fail)
        with_reducible refine (cP _).mono ?_
        rintro e w' ⟨rfl, rfl⟩
        go_wp2_with (fail)
        with_reducible refine (cT _).mono ?_
        rintro e w' ⟨rfl, rfl⟩
        go_wp2
        go_ret2
        exact ⟨congrArg Ending.returned (addV_no HNO.out), rfl⟩
      · have cT := pright_b r2 q2 n2 m2 true i1 i2 hR
        obtain ⟨r3, q3, hsub, hne⟩ := HB.out hR
        have hsub2 := fun W => hsub Try.prog W 48
        have hneq : ∀ W, (binOp .neq 48 (.complex .f64 r3 q3) (.complex .f64 r q)).run Try.prog W = .ok (.bool !(sdB (tsm X i + X i) && sdB (tsm Y i + Y i))) W := fun W => by rw [run_neq_complex, hne]
        clear hR i1 i2 hsub hne
        cases hz : (sdB (tsm X i + X i) && sdB (tsm Y i + Y i))
        · have HNO := Lib.hid (HN2.out (by rw [HSU.out, hz]))
          rw [hz] at hneq
          clear hz
          go_wp2_with (fail)
          with_reducible refine (cP _).mono ?_
          rintro e w' ⟨rfl, rfl⟩
          go_wp2_with (fail)
          with_reducible refine (cT _).mono ?_
          rintro e w' ⟨rfl, rfl⟩
          go_wp2
          go_ret2
          exact ⟨congrArg Ending.returned (addV_no HNO.out), rfl⟩
        · have HY := Lib.hid (show okS X Y (i + 1) = true by rw [HSU.out, hz])
          have HE := Lib.hid (HEX.out hz)
          rw [hz] at hneq
          clear hz
          go_wp2_with (fail)
          with_reducible refine (cP _).mono ?_
          rintro e w' ⟨rfl, rfl⟩
          go_wp2_with (fail)
          with_reducible refine (cT _).mono ?_
          rintro e w' ⟨rfl, rfl⟩
          go_wp2
          go_roundw
          case rel => exact ⟨i + 1, by omega, by go_num, by rw [HR.out.1, HR.out.2], HY.out, by first | rfl | trivial⟩
          case measure => first | omega | (simp [intOf]; omega)
    · obtain rfl : i = n := by omega
      have HOK := Lib.hid hok
      clear hok h hN hX ir iq sm1 sm2
      go_wp2
      go_ret2
      exact ⟨congrArg Ending.returned (addV_yes HOK.out), rfl⟩
def subV (a b c d : Int) (x y u v : Nat) : Value := addV (fun i => if i = 0 then a else -c) (fun i => if i = 0 then b else -d) (fun i => if i = 0 then x else negFloat .f64 u) (fun i => if i = 0 then y else negFloat .f64 v) 2
theorem sub_sd {n : Int} (h : sdB n = true) : sdB (-n) = true := by have := sdB_yes h; exact sdB_mk (by omega) (by omega)
theorem subV_no {a b c d : Int} {x y u v : Nat} (ha : sdB a = true) (hb : sdB b = true) (h : (sdB (a - c) && sdB (b - d)) = false) : subV a b c d x y u v = .tuple #[.complex .f64 0 0, .int .i64 10] := by
  refine (addV_no ?_).symm
  simp [okS, tsm, ha, hb, ← Int.sub_eq_add_neg]
  simpa using h
theorem subV_yes {a b c d : Int} {x y u v : Nat} (h1 : Is x a) (h2 : Is y b) (h3 : Is u c) (h4 : Is v d) (ha : sdB a = true) (hb : sdB b = true) (hc : sdB c = true) (hd : sdB d = true) (h : (sdB (a - c) && sdB (b - d)) = true) : ∃ r q, subV a b c d x y u v = .tuple #[.complex .f64 r q, .int .i64 0] ∧ Is r (a - c) ∧ Is q (b - d) := by
  have hok : okS (fun i => if i = 0 then a else -c) (fun i => if i = 0 then b else -d) 2 = true := by
    simp [okS, tsm, ha, hb, ← Int.sub_eq_add_neg]
    simpa using h
  have hi := rs_is (zx := fun i => if i = 0 then x else negFloat .f64 u) (zy := fun i => if i = 0 then y else negFloat .f64 v) (n := 2) (fun i hi => by
    have : i = 0 ∨ i = 1 := by omega
    rcases this with rfl | rfl
    · exact ⟨h1, h2, ha, hb⟩
    · exact ⟨neg_is h3, neg_is h4, sub_sd hc, sub_sd hd⟩) (Nat.le_refl 2) hok
  refine ⟨_, _, (addV_yes hok).symm, ?_, ?_⟩
  · have := hi.1; simpa [tsm, ← Int.sub_eq_add_neg] using this
  · have := hi.2; simpa [tsm, ← Int.sub_eq_add_neg] using this
set_option maxHeartbeats 8000000 in
set_option maxRecDepth 100000 in
theorem psub_any (x y u v : Nat) (a b c d : Int) (h1 : Is x a) (h2 : Is y b) (h3 : Is u c) (h4 : Is v d) (ha : sdB a = true) (hb : sdB b = true) (hc : sdB c = true) (hd : sdB d = true) (w : World) :
    Calls Try.prog 36 #[.complex .f64 x y, .complex .f64 u v] w fun e w' => e = .returned (subV a b c d x y u v) ∧ Below w.heap.size w w' := by
  have b0 : Below w.heap.size w (w.alloc (.cells #[.complex .f64 x y, .complex .f64 (negFloat .f64 u) (negFloat .f64 v)] 48)) := (Below.refl _ _).alloc (Nat.le_refl _) _
  have B0 : Cxs (w.alloc (.cells #[.complex .f64 x y, .complex .f64 (negFloat .f64 u) (negFloat .f64 v)] 48)) (some ⟨w.heap.size, 0, none⟩) 2 (fun i => if i = 0 then x else negFloat .f64 u) (fun i => if i = 0 then y else negFloat .f64 v) := fun _ =>
    ⟨_, _, rfl, fun i hi => by
      have : i = 0 ∨ i = 1 := by omega
      rcases this with rfl | rfl <;> simp [World.cell?_alloc_new]⟩
  have c1 := padd_any _ 2 2 _ (fun i => if i = 0 then a else -c) (fun i => if i = 0 then b else -d) _ _ B0 (fun i hi => by
    have : i = 0 ∨ i = 1 := by omega
    rcases this with rfl | rfl
    · exact ⟨h1, h2, ha, hb⟩
    · exact ⟨neg_is h3, neg_is h4, sub_sd hc, sub_sd hd⟩) (by omega)
  have hneg : ∀ W, (Op.unary .neg (.complex .f64 u v)).run Try.prog W = .ok (.complex .f64 (negFloat .f64 u) (negFloat .f64 v)) W := fun W => rfl
  unfold addV at c1
  have hV : Hid (subV a b c d x y u v = _) := Lib.hid (by unfold subV addV; rfl)
  generalize (if okS (fun i => if i = 0 then a else -c) (fun i => if i = 0 then b else -d) 2 = true then rs (fun i => if i = 0 then x else negFloat .f64 u) 2 else 0) = rr at *
  generalize (if okS (fun i => if i = 0 then a else -c) (fun i => if i = 0 then b else -d) 2 = true then rs (fun i => if i = 0 then y else negFloat .f64 v) 2 else 0) = qq at *
  generalize (if okS (fun i => if i = 0 then a else -c) (fun i => if i = 0 then b else -d) 2 = true then (0 : Int) else 10) = ee at *
  generalize subV a b c d x y u v = V at *
  clear B0 h1 h2 h3 h4 ha hb hc hd
  generalize negFloat .f64 u = nu at *
  generalize negFloat .f64 v = nv at *
  go_enter Try.func36, Try.ntmps36
  go_wp2_with (fail)
  with_reducible refine c1.mono ?_
  rintro e w' ⟨rfl, rfl⟩
  go_wp2
  go_ret2
  exact ⟨congrArg Ending.returned hV.out.symm, b0⟩
end Go.Proofs.Ytkiefceomgbbhaa
