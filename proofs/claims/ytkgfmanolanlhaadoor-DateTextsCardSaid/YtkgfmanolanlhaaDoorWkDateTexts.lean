/- The walk of DateTexts. -/
import Derived.Test.YtkgfmanolanlhaaDoorWkDateCounts
import Derived.Test.YtkgfmanolanlhaaDoorRefDateA
import Derived.LoopTactic
import Derived.Lib.QuietBelow
import Derived.BigQuiet
namespace Go.Proofs.YtkgfmanolanlhaaDoor
open Go.RowKit Go.Sort
set_option linter.unusedVariables false
set_option linter.unusedSimpArgs false
theorem mixedAll : Tryd.prog.follows .mixedOrders = true := by kernel_rfl
theorem str_at (s : ByteArray) (j : Nat) (h : j < s.size) (W : World) : (Instr.index 9 (.string s) (.int .i64 j)).run Tryd.prog W = .ok (.int .u8 (s[j].toNat : Int)) W := by
  simp [go_sem, h]
theorem hsq_of {w W : World} {qs : List (Nat × Int × Int × Int)} (q : Nat) (a b c : Int) (hm : (q, a, b, c) ∈ qs) (K : HD w qs W) : W.cell? ⟨q, 0, none⟩ = some (.int .i64 a) ∧ W.cell? ⟨q, 1, none⟩ = some (.int .i64 b) ∧ W.cell? ⟨q, 2, none⟩ = some (.int .i64 c) ∧ HD w qs W := by
  obtain ⟨x, y, z⟩ := (K.2.2 (q, a, b, c) hm).1
  exact ⟨x, y, z, K⟩
theorem hsq_step {w W W' : World} {qs : List (Nat × Int × Int × Int)} {q : Nat} {a b c : Int} (hb : Below W.heap.size W W') (h : W.cell? ⟨q, 0, none⟩ = some (.int .i64 a) ∧ W.cell? ⟨q, 1, none⟩ = some (.int .i64 b) ∧ W.cell? ⟨q, 2, none⟩ = some (.int .i64 c) ∧ HD w qs W) (hm : (q, a, b, c) ∈ qs) : W'.cell? ⟨q, 0, none⟩ = some (.int .i64 a) ∧ W'.cell? ⟨q, 1, none⟩ = some (.int .i64 b) ∧ W'.cell? ⟨q, 2, none⟩ = some (.int .i64 c) ∧ HD w qs W' := hsq_of q a b c hm (h.2.2.2.step hb)
/-- a text's byte -/
def bv (s : ByteArray) (j : Nat) : Int := if h : j < s.size then (s[j].toNat : Int) else 0
theorem bv_bd (s : ByteArray) (j : Nat) : 0 ≤ bv s j ∧ bv s j ≤ 255 := by
  unfold bv
  split
  · rename_i h
    have := s[j].toNat_lt
    omega
  · omega
theorem str_bv (s : ByteArray) (j : Nat) (h : j < s.size) (x : Int) (hx : x = j) (W : World) : (Instr.index 9 (.string s) (.int .i64 x)).run Tryd.prog W = .ok (.int .u8 (bv s j)) W := by
  rw [hx, str_at s j h W]
  unfold bv
  rw [dif_pos h]
def tstB (s : ByteArray) (j : Nat) : Bool := if j = 4 ∨ j = 7 then (bv s j == 45) else (decide (48 ≤ bv s j) && decide (bv s j ≤ 57))
def okB (s : ByteArray) : Nat → Bool
  | 0 => true
  | j + 1 => okB s j && tstB s j
theorem okB_mono {s : ByteArray} {j : Nat} (h : okB s j = false) : ∀ k, okB s (j + k) = false
  | 0 => h
  | k + 1 => by
    show (okB s (j + k) && tstB s (j + k)) = false
    rw [okB_mono h k]; rfl
theorem size_ten {s : ByteArray} (h : s.size = 10) : ∃ a b c d e f g h i j, s = ⟨#[a, b, c, d, e, f, g, h, i, j]⟩ := by
  obtain ⟨⟨l⟩⟩ := s
  have hl : l.length = 10 := h
  match l, hl with
  | [a, b, c, d, e, f, g, h, i, j], _ => exact ⟨a, b, c, d, e, f, g, h, i, j, rfl⟩
theorem bv_lit (a b c d e f g h i j : UInt8) : bv ⟨#[a, b, c, d, e, f, g, h, i, j]⟩ 0 = a.toNat ∧ bv ⟨#[a, b, c, d, e, f, g, h, i, j]⟩ 1 = b.toNat ∧ bv ⟨#[a, b, c, d, e, f, g, h, i, j]⟩ 2 = c.toNat ∧ bv ⟨#[a, b, c, d, e, f, g, h, i, j]⟩ 3 = d.toNat ∧ bv ⟨#[a, b, c, d, e, f, g, h, i, j]⟩ 4 = e.toNat ∧ bv ⟨#[a, b, c, d, e, f, g, h, i, j]⟩ 5 = f.toNat ∧ bv ⟨#[a, b, c, d, e, f, g, h, i, j]⟩ 6 = g.toNat ∧ bv ⟨#[a, b, c, d, e, f, g, h, i, j]⟩ 7 = h.toNat ∧ bv ⟨#[a, b, c, d, e, f, g, h, i, j]⟩ 8 = i.toNat ∧ bv ⟨#[a, b, c, d, e, f, g, h, i, j]⟩ 9 = j.toNat := ⟨rfl, rfl, rfl, rfl, rfl, rfl, rfl, rfl, rfl, rfl⟩
theorem form_ok {s : ByteArray} (hz : s.size = 10) : formB s.data.toList = okB s 10 := by
  obtain ⟨a, b, c, d, e, f, g, q, i, j, rfl⟩ := size_ten hz
  obtain ⟨e0, e1, e2, e3, e4, e5, e6, e7, e8, e9⟩ := bv_lit a b c d e f g q i j
  have hb : ∀ x : UInt8, ((x.toNat : Int) == 45) = (x == 45) := fun x => by
    rw [Bool.eq_iff_iff, beq_iff_eq, beq_iff_eq, ← UInt8.toNat_inj]
    show _ ↔ x.toNat = 45
    omega
  have hd : ∀ x : UInt8, (decide (48 ≤ (x.toNat : Int)) && decide ((x.toNat : Int) ≤ 57)) = isD x := fun x => by
    unfold isD
    congr 1 <;> simp <;> omega
  simp only [okB, tstB, e0, e1, e2, e3, e4, e5, e6, e7, e8, e9, hb, hd, formB, Bool.true_and]
  simp
/-- the form of a text: each byte that the document asks -/
theorem form_all {s : ByteArray} (h : formB s.data.toList = true) : s.size = 10 ∧ (48 ≤ bv s 0 ∧ bv s 0 ≤ 57) ∧ (48 ≤ bv s 1 ∧ bv s 1 ≤ 57) ∧ (48 ≤ bv s 2 ∧ bv s 2 ≤ 57) ∧ (48 ≤ bv s 3 ∧ bv s 3 ≤ 57) ∧ (48 ≤ bv s 5 ∧ bv s 5 ≤ 57) ∧ (48 ≤ bv s 6 ∧ bv s 6 ≤ 57) ∧ (48 ≤ bv s 8 ∧ bv s 8 ≤ 57) ∧ (48 ≤ bv s 9 ∧ bv s 9 ≤ 57) ∧
    vY s.data.toList = (bv s 0 - 48) * 1000 + (bv s 1 - 48) * 100 + (bv s 2 - 48) * 10 + (bv s 3 - 48) ∧ vM s.data.toList = (bv s 5 - 48) * 10 + (bv s 6 - 48) ∧ vD s.data.toList = (bv s 8 - 48) * 10 + (bv s 9 - 48) := by
  have hl := form_len h
  have hs : s.size = 10 := by rw [← hl, Array.length_toList]; rfl
  obtain ⟨a, b, c, d, e, f, g, q, i, j, rfl⟩ := size_ten hs
  obtain ⟨e0, e1, e2, e3, e4, e5, e6, e7, e8, e9⟩ := bv_lit a b c d e f g q i j
  have hf := h
  simp only [formB, Bool.and_eq_true, isD_iff] at hf
  obtain ⟨⟨⟨⟨⟨⟨⟨⟨⟨x0, x1⟩, x2⟩, x3⟩, x4⟩, x5⟩, x6⟩, x7⟩, x8⟩, x9⟩ := hf
  rw [e0, e1, e2, e3, e5, e6, e8, e9]
  exact ⟨hs, by omega, by omega, by omega, by omega, by omega, by omega, by omega, by omega, rfl, rfl, rfl⟩
theorem txt_back {s : ByteArray} (h : formB s.data.toList = true) : (⟨(txtD (vY s.data.toList) (vM s.data.toList) (vD s.data.toList)).toArray⟩ : ByteArray) = s := by
  rw [(txt_form h).1]
set_option maxRecDepth 100000 in
set_option maxHeartbeats 2000000 in
theorem texts_noform0 (s : ByteArray) (y m d : Int) (hs : ¬ 60 < s.size) (hp : ∀ w, Door w → Calls Tryd.prog 25 #[.string s] w fun e w' => e = .returned (.tuple #[.agg #[.int .i64 0, .int .i64 0, .int .i64 0], .int .i64 5]) ∧ Below w.heap.size w w') (hf : formB s.data.toList = false) (hrd : ∀ w, Calls Tryd.prog 26 #[.agg #[.int .i64 y, .int .i64 m, .int .i64 d]] w fun e w' => e = .returned (.bool false) ∧ Below w.heap.size w w') (w : World) (D : Door w) : Calls Tryd.prog 7 #[.string s, .agg #[.int .i64 y, .int .i64 m, .int .i64 d]] w fun e w' => e = .returned (.bool true) ∧ Below w.heap.size w w' := by
  have hs60 : ¬ (60 : Int) < ((s.size : Nat) : Int) := by omega
  have K0 := hd_box D y m d 23
  go_enter Tryd.func7, Tryd.ntmps7
  go_wp2_with (fail)
  refine (days_any _ K0.1).mono ?_
  rintro e w1 ⟨rfl, hb⟩
  have K1 := K0.step hb
  clear hb K0
  go_wp2_with (fail)
  refine (hp _ K1.1).mono ?_
  rintro e w2 ⟨rfl, hb⟩
  have K2 := K1.step hb
  clear hb K1
  have K3 := K2.add 0 0 0 23
  clear K2
  go_wp2
  go_loopw [7, 8] (fun vf vi wr => ∃ (W2 : World) (F : Bool) (j : Nat) (x : Int), W2 = wr ∧ vf = .bool F ∧ vi = .int .i64 x ∧ x = j ∧ j ≤ 10 ∧ F = ((((s.size : Nat) : Int) == 10) && okB s j) ∧ HD w [(w2.heap.size, 0, 0, 0), (w.heap.size, y, m, d)] W2) (fun _ vi _ => (10 - intOf vi).toNat)
  case atStart => exact ⟨_, _, 0, 0, rfl, rfl, rfl, rfl, by omega, by simp [okB], K3⟩
  case round =>
    obtain ⟨W2, F, j, x, rfl, rfl, rfl, hx, hj, hF, KM⟩ := hrel
    clear K3
    cases F with
    | false =>
      have K50 := KM
      clear KM
      clear hF hx
      obtain ⟨y0, z0, x0⟩ := (K50.2.2 (w2.heap.size, 0, 0, 0) (by simp)).1
      obtain ⟨y1, z1, x1⟩ := (K50.2.2 (w.heap.size, y, m, d) (by simp)).1
      go_wp2_with (fail)
      refine (hrd _).mono ?_
      rintro e w20 ⟨rfl, hb⟩
      have K51 := K50.step hb
      clear hb K50
      clear y0 z0 x0 y1 z1 x1
      have BE := K51.2.1
      go_wp2
      go_ret
      exact ⟨rfl, BE⟩
    | true =>
      have hF2 : ((((s.size : Nat) : Int) == 10) = true) ∧ okB s j = true := by
        have := hF.symm
        rwa [Bool.and_eq_true] at this
      obtain ⟨hs10, hok⟩ := hF2
      have hsz : s.size = 10 := by have := beq_iff_eq.1 hs10; omega
      by_cases hgo : j < 10
      · have hg : decide (x < 10) = true := by simp; omega
        have hI := fun W => str_bv s j (by omega) x hx W
        obtain ⟨v0, v1⟩ := bv_bd s j
        have HO : okB s (j + 1) = tstB s j := by show (okB s j && tstB s j) = _; rw [hok, Bool.true_and]
        have HS : ((((s.size : Nat) : Int) == 10) && okB s (j + 1)) = tstB s j := by rw [hs10, HO, Bool.true_and]
        have HH := Lib.hid HS
        have HT := Lib.hid (show tstB s j = if j = 4 ∨ j = 7 then (bv s j == 45) else (decide (48 ≤ bv s j) && decide (bv s j ≤ 57)) from rfl)
        have x0 : 0 ≤ x := by omega
        have x9 : x ≤ 9 := by omega
        have HX := Lib.hid hx
        generalize bv s j = v at *
        clear hF hok HO HS hs10
        by_cases h4 : j = 4
        · have q4 : (x == 4) = true := by simp; omega
          have HR := Lib.hid (show tstB s j = (v == 45) by rw [HT.out, if_pos (.inl h4)])
          clear HT h4 hx
          go_wp2
          go_roundw
          case rel => exact ⟨_, _, j + 1, x + 1, rfl, rfl, rfl, by have := HX.out; omega, by omega, by rw [HH.out, HR.out], KM⟩
          case measure => simp [intOf]; omega
        · have q4 : (x == 4) = false := by simp; omega
          by_cases h7 : j = 7
          · have q7 : (x == 7) = true := by simp; omega
            have HR := Lib.hid (show tstB s j = (v == 45) by rw [HT.out, if_pos (.inr h7)])
            clear HT h4 h7 hx
            go_wp2
            go_roundw
            case rel => exact ⟨_, _, j + 1, x + 1, rfl, rfl, rfl, by have := HX.out; omega, by omega, by rw [HH.out, HR.out], KM⟩
            case measure => simp [intOf]; omega
          · have q7 : (x == 7) = false := by simp; omega
            have HR := Lib.hid (show tstB s j = (decide (48 ≤ v) && decide (v ≤ 57)) by rw [HT.out, if_neg (by omega)])
            clear HT h4 h7 hx
            cases h48 : decide (48 ≤ v)
            · have HR2 := Lib.hid (show tstB s j = false by rw [HR.out, h48]; rfl)
              clear HR
              go_wp2
              go_roundw
              case rel => exact ⟨_, _, j + 1, x + 1, rfl, rfl, rfl, by have := HX.out; omega, by omega, by rw [HH.out, HR2.out], KM⟩
              case measure => simp [intOf]; omega
            · have HR2 := Lib.hid (show tstB s j = decide (v ≤ 57) by rw [HR.out, h48]; rfl)
              clear HR
              go_wp2
              go_roundw
              case rel => exact ⟨_, _, j + 1, x + 1, rfl, rfl, rfl, by have := HX.out; omega, by omega, by rw [HH.out, HR2.out], KM⟩
              case measure => simp [intOf]; omega
      · obtain rfl : j = 10 := by omega
        exfalso
        rw [form_ok hsz, hok] at hf
        cases hf
set_option maxRecDepth 100000 in
set_option maxHeartbeats 2000000 in
theorem texts_noform1 (s : ByteArray) (y m d : Int) (hs : ¬ 60 < s.size) (hp : ∀ w, Door w → Calls Tryd.prog 25 #[.string s] w fun e w' => e = .returned (.tuple #[.agg #[.int .i64 0, .int .i64 0, .int .i64 0], .int .i64 5]) ∧ Below w.heap.size w w') (hf : formB s.data.toList = false) (hrd : ∀ w, Calls Tryd.prog 26 #[.agg #[.int .i64 y, .int .i64 m, .int .i64 d]] w fun e w' => e = .returned (.bool true) ∧ Below w.heap.size w w') (T : ByteArray) (hTx : ∀ w, Door w → Calls Tryd.prog 18 #[.agg #[.int .i64 y, .int .i64 m, .int .i64 d]] w fun e w' => e = .returned (.string T) ∧ Below w.heap.size w w') (hTp : ∀ w, Door w → Calls Tryd.prog 25 #[.string T] w fun e w' => e = .returned (.tuple #[.agg #[.int .i64 y, .int .i64 m, .int .i64 d], .int .i64 0]) ∧ Below w.heap.size w w') (w : World) (D : Door w) : Calls Tryd.prog 7 #[.string s, .agg #[.int .i64 y, .int .i64 m, .int .i64 d]] w fun e w' => e = .returned (.bool true) ∧ Below w.heap.size w w' := by
  have hs60 : ¬ (60 : Int) < ((s.size : Nat) : Int) := by omega
  have K0 := hd_box D y m d 23
  go_enter Tryd.func7, Tryd.ntmps7
  go_wp2_with (fail)
  refine (days_any _ K0.1).mono ?_
  rintro e w1 ⟨rfl, hb⟩
  have K1 := K0.step hb
  clear hb K0
  go_wp2_with (fail)
  refine (hp _ K1.1).mono ?_
  rintro e w2 ⟨rfl, hb⟩
  have K2 := K1.step hb
  clear hb K1
  have K3 := K2.add 0 0 0 23
  clear K2
  go_wp2
  go_loopw [7, 8] (fun vf vi wr => ∃ (W2 : World) (F : Bool) (j : Nat) (x : Int), W2 = wr ∧ vf = .bool F ∧ vi = .int .i64 x ∧ x = j ∧ j ≤ 10 ∧ F = ((((s.size : Nat) : Int) == 10) && okB s j) ∧ HD w [(w2.heap.size, 0, 0, 0), (w.heap.size, y, m, d)] W2) (fun _ vi _ => (10 - intOf vi).toNat)
  case atStart => exact ⟨_, _, 0, 0, rfl, rfl, rfl, rfl, by omega, by simp [okB], K3⟩
  case round =>
    obtain ⟨W2, F, j, x, rfl, rfl, rfl, hx, hj, hF, KM⟩ := hrel
    clear K3
    cases F with
    | false =>
      have K50 := KM
      clear KM
      clear hF hx
      obtain ⟨y0, z0, x0⟩ := (K50.2.2 (w2.heap.size, 0, 0, 0) (by simp)).1
      obtain ⟨y1, z1, x1⟩ := (K50.2.2 (w.heap.size, y, m, d) (by simp)).1
      go_wp2_with (fail)
      refine (hrd _).mono ?_
      rintro e w20 ⟨rfl, hb⟩
      have K51 := K50.step hb
      clear hb K50
      clear y0 z0 x0 y1 z1 x1
      obtain ⟨y2, z2, x2⟩ := (K51.2.2 (w.heap.size, y, m, d) (by simp)).1
      go_wp2_with (fail)
      refine (hTx _ K51.1).mono ?_
      rintro e w21 ⟨rfl, hb⟩
      have K52 := K51.step hb
      clear hb K51
      clear y2 z2 x2
      go_wp2_with (fail)
      refine (hTp _ K52.1).mono ?_
      rintro e w22 ⟨rfl, hb⟩
      have K53 := K52.step hb
      clear hb K52
      have K54 := K53.add y m d 23
      clear K53
      obtain ⟨y3, z3, x3⟩ := (K54.2.2 (w.heap.size, y, m, d) (by simp)).1
      obtain ⟨y4, z4, x4⟩ := (K54.2.2 (w22.heap.size, y, m, d) (by simp)).1
      have BE := K54.2.1
      go_wp2
      go_ret
      exact ⟨rfl, BE⟩
    | true =>
      have hF2 : ((((s.size : Nat) : Int) == 10) = true) ∧ okB s j = true := by
        have := hF.symm
        rwa [Bool.and_eq_true] at this
      obtain ⟨hs10, hok⟩ := hF2
      have hsz : s.size = 10 := by have := beq_iff_eq.1 hs10; omega
      by_cases hgo : j < 10
      · have hg : decide (x < 10) = true := by simp; omega
        have hI := fun W => str_bv s j (by omega) x hx W
        obtain ⟨v0, v1⟩ := bv_bd s j
        have HO : okB s (j + 1) = tstB s j := by show (okB s j && tstB s j) = _; rw [hok, Bool.true_and]
        have HS : ((((s.size : Nat) : Int) == 10) && okB s (j + 1)) = tstB s j := by rw [hs10, HO, Bool.true_and]
        have HH := Lib.hid HS
        have HT := Lib.hid (show tstB s j = if j = 4 ∨ j = 7 then (bv s j == 45) else (decide (48 ≤ bv s j) && decide (bv s j ≤ 57)) from rfl)
        have x0 : 0 ≤ x := by omega
        have x9 : x ≤ 9 := by omega
        have HX := Lib.hid hx
        generalize bv s j = v at *
        clear hF hok HO HS hs10
        by_cases h4 : j = 4
        · have q4 : (x == 4) = true := by simp; omega
          have HR := Lib.hid (show tstB s j = (v == 45) by rw [HT.out, if_pos (.inl h4)])
          clear HT h4 hx
          go_wp2
          go_roundw
          case rel => exact ⟨_, _, j + 1, x + 1, rfl, rfl, rfl, by have := HX.out; omega, by omega, by rw [HH.out, HR.out], KM⟩
          case measure => simp [intOf]; omega
        · have q4 : (x == 4) = false := by simp; omega
          by_cases h7 : j = 7
          · have q7 : (x == 7) = true := by simp; omega
            have HR := Lib.hid (show tstB s j = (v == 45) by rw [HT.out, if_pos (.inr h7)])
            clear HT h4 h7 hx
            go_wp2
            go_roundw
            case rel => exact ⟨_, _, j + 1, x + 1, rfl, rfl, rfl, by have := HX.out; omega, by omega, by rw [HH.out, HR.out], KM⟩
            case measure => simp [intOf]; omega
          · have q7 : (x == 7) = false := by simp; omega
            have HR := Lib.hid (show tstB s j = (decide (48 ≤ v) && decide (v ≤ 57)) by rw [HT.out, if_neg (by omega)])
            clear HT h4 h7 hx
            cases h48 : decide (48 ≤ v)
            · have HR2 := Lib.hid (show tstB s j = false by rw [HR.out, h48]; rfl)
              clear HR
              go_wp2
              go_roundw
              case rel => exact ⟨_, _, j + 1, x + 1, rfl, rfl, rfl, by have := HX.out; omega, by omega, by rw [HH.out, HR2.out], KM⟩
              case measure => simp [intOf]; omega
            · have HR2 := Lib.hid (show tstB s j = decide (v ≤ 57) by rw [HR.out, h48]; rfl)
              clear HR
              go_wp2
              go_roundw
              case rel => exact ⟨_, _, j + 1, x + 1, rfl, rfl, rfl, by have := HX.out; omega, by omega, by rw [HH.out, HR2.out], KM⟩
              case measure => simp [intOf]; omega
      · obtain rfl : j = 10 := by omega
        exfalso
        rw [form_ok hsz, hok] at hf
        cases hf
set_option maxRecDepth 100000 in
set_option maxHeartbeats 2000000 in
theorem texts_day0 (s : ByteArray) (y m d Y M N : Int) (hs : ¬ 60 < s.size) (hp : ∀ w, Door w → Calls Tryd.prog 25 #[.string s] w fun e w' => e = .returned (.tuple #[.agg #[.int .i64 Y, .int .i64 M, .int .i64 N], .int .i64 0]) ∧ Below w.heap.size w w') (hf : formB s.data.toList = true) (hXt : ∀ w, Door w → Calls Tryd.prog 18 #[.agg #[.int .i64 Y, .int .i64 M, .int .i64 N]] w fun e w' => e = .returned (.string s) ∧ Below w.heap.size w w') (hXr : ∀ w, Calls Tryd.prog 26 #[.agg #[.int .i64 Y, .int .i64 M, .int .i64 N]] w fun e w' => e = .returned (.bool true) ∧ Below w.heap.size w w') (hrd : ∀ w, Calls Tryd.prog 26 #[.agg #[.int .i64 y, .int .i64 m, .int .i64 d]] w fun e w' => e = .returned (.bool false) ∧ Below w.heap.size w w') (w : World) (D : Door w) : Calls Tryd.prog 7 #[.string s, .agg #[.int .i64 y, .int .i64 m, .int .i64 d]] w fun e w' => e = .returned (.bool true) ∧ Below w.heap.size w w' := by
  have hs60 : ¬ (60 : Int) < ((s.size : Nat) : Int) := by omega
  have K0 := hd_box D y m d 23
  go_enter Tryd.func7, Tryd.ntmps7
  go_wp2_with (fail)
  refine (days_any _ K0.1).mono ?_
  rintro e w1 ⟨rfl, hb⟩
  have K1 := K0.step hb
  clear hb K0
  go_wp2_with (fail)
  refine (hp _ K1.1).mono ?_
  rintro e w2 ⟨rfl, hb⟩
  have K2 := K1.step hb
  clear hb K1
  have K3 := K2.add Y M N 23
  clear K2
  go_wp2
  go_loopw [7, 8] (fun vf vi wr => ∃ (W2 : World) (F : Bool) (j : Nat) (x : Int), W2 = wr ∧ vf = .bool F ∧ vi = .int .i64 x ∧ x = j ∧ j ≤ 10 ∧ F = ((((s.size : Nat) : Int) == 10) && okB s j) ∧ HD w [(w2.heap.size, Y, M, N), (w.heap.size, y, m, d)] W2) (fun _ vi _ => (10 - intOf vi).toNat)
  case atStart => exact ⟨_, _, 0, 0, rfl, rfl, rfl, rfl, by omega, by simp [okB], K3⟩
  case round =>
    obtain ⟨W2, F, j, x, rfl, rfl, rfl, hx, hj, hF, KM⟩ := hrel
    clear K3
    cases F with
    | false =>
      exfalso
      have h10 := form_ok (form_all hf).1
      rw [hf] at h10
      have hs10 : (((s.size : Nat) : Int) == 10) = true := by have := (form_all hf).1; simp; omega
      rw [hs10, Bool.true_and] at hF
      have := okB_mono hF.symm (10 - j)
      rw [show j + (10 - j) = 10 by omega, ← h10] at this
      cases this
    | true =>
      have hF2 : ((((s.size : Nat) : Int) == 10) = true) ∧ okB s j = true := by
        have := hF.symm
        rwa [Bool.and_eq_true] at this
      obtain ⟨hs10, hok⟩ := hF2
      have hsz : s.size = 10 := by have := beq_iff_eq.1 hs10; omega
      by_cases hgo : j < 10
      · have hg : decide (x < 10) = true := by simp; omega
        have hI := fun W => str_bv s j (by omega) x hx W
        obtain ⟨v0, v1⟩ := bv_bd s j
        have HO : okB s (j + 1) = tstB s j := by show (okB s j && tstB s j) = _; rw [hok, Bool.true_and]
        have HS : ((((s.size : Nat) : Int) == 10) && okB s (j + 1)) = tstB s j := by rw [hs10, HO, Bool.true_and]
        have HH := Lib.hid HS
        have HT := Lib.hid (show tstB s j = if j = 4 ∨ j = 7 then (bv s j == 45) else (decide (48 ≤ bv s j) && decide (bv s j ≤ 57)) from rfl)
        have x0 : 0 ≤ x := by omega
        have x9 : x ≤ 9 := by omega
        have HX := Lib.hid hx
        generalize bv s j = v at *
        clear hF hok HO HS hs10
        by_cases h4 : j = 4
        · have q4 : (x == 4) = true := by simp; omega
          have HR := Lib.hid (show tstB s j = (v == 45) by rw [HT.out, if_pos (.inl h4)])
          clear HT h4 hx
          go_wp2
          go_roundw
          case rel => exact ⟨_, _, j + 1, x + 1, rfl, rfl, rfl, by have := HX.out; omega, by omega, by rw [HH.out, HR.out], KM⟩
          case measure => simp [intOf]; omega
        · have q4 : (x == 4) = false := by simp; omega
          by_cases h7 : j = 7
          · have q7 : (x == 7) = true := by simp; omega
            have HR := Lib.hid (show tstB s j = (v == 45) by rw [HT.out, if_pos (.inr h7)])
            clear HT h4 h7 hx
            go_wp2
            go_roundw
            case rel => exact ⟨_, _, j + 1, x + 1, rfl, rfl, rfl, by have := HX.out; omega, by omega, by rw [HH.out, HR.out], KM⟩
            case measure => simp [intOf]; omega
          · have q7 : (x == 7) = false := by simp; omega
            have HR := Lib.hid (show tstB s j = (decide (48 ≤ v) && decide (v ≤ 57)) by rw [HT.out, if_neg (by omega)])
            clear HT h4 h7 hx
            cases h48 : decide (48 ≤ v)
            · have HR2 := Lib.hid (show tstB s j = false by rw [HR.out, h48]; rfl)
              clear HR
              go_wp2
              go_roundw
              case rel => exact ⟨_, _, j + 1, x + 1, rfl, rfl, rfl, by have := HX.out; omega, by omega, by rw [HH.out, HR2.out], KM⟩
              case measure => simp [intOf]; omega
            · have HR2 := Lib.hid (show tstB s j = decide (v ≤ 57) by rw [HR.out, h48]; rfl)
              clear HR
              go_wp2
              go_roundw
              case rel => exact ⟨_, _, j + 1, x + 1, rfl, rfl, rfl, by have := HX.out; omega, by omega, by rw [HH.out, HR2.out], KM⟩
              case measure => simp [intOf]; omega
      · obtain rfl : j = 10 := by omega
        have K50 := KM
        clear KM
        have hg : decide (x < 10) = false := by simp; omega
        clear hF hok hs10 hgo hx
        obtain ⟨y0, z0, x0⟩ := (K50.2.2 (w2.heap.size, Y, M, N) (by simp)).1
        go_wp2_with (fail)
        refine (hXt _ K50.1).mono ?_
        rintro e w10 ⟨rfl, hb⟩
        have K51 := K50.step hb
        clear hb K50
        clear y0 z0 x0
        obtain ⟨y1, z1, x1⟩ := (K51.2.2 (w2.heap.size, Y, M, N) (by simp)).1
        go_wp2_with (fail)
        refine (hXr _).mono ?_
        rintro e w11 ⟨rfl, hb⟩
        have K52 := K51.step hb
        clear hb K51
        clear y1 z1 x1
        obtain ⟨y2, z2, x2⟩ := (K52.2.2 (w.heap.size, y, m, d) (by simp)).1
        go_wp2_with (fail)
        refine (hrd _).mono ?_
        rintro e w20 ⟨rfl, hb⟩
        have K53 := K52.step hb
        clear hb K52
        clear y2 z2 x2
        have BE := K53.2.1
        go_wp2
        go_ret
        exact ⟨rfl, BE⟩
set_option maxRecDepth 100000 in
set_option maxHeartbeats 2000000 in
theorem texts_day1 (s : ByteArray) (y m d Y M N : Int) (hs : ¬ 60 < s.size) (hp : ∀ w, Door w → Calls Tryd.prog 25 #[.string s] w fun e w' => e = .returned (.tuple #[.agg #[.int .i64 Y, .int .i64 M, .int .i64 N], .int .i64 0]) ∧ Below w.heap.size w w') (hf : formB s.data.toList = true) (hXt : ∀ w, Door w → Calls Tryd.prog 18 #[.agg #[.int .i64 Y, .int .i64 M, .int .i64 N]] w fun e w' => e = .returned (.string s) ∧ Below w.heap.size w w') (hXr : ∀ w, Calls Tryd.prog 26 #[.agg #[.int .i64 Y, .int .i64 M, .int .i64 N]] w fun e w' => e = .returned (.bool true) ∧ Below w.heap.size w w') (hrd : ∀ w, Calls Tryd.prog 26 #[.agg #[.int .i64 y, .int .i64 m, .int .i64 d]] w fun e w' => e = .returned (.bool true) ∧ Below w.heap.size w w') (T : ByteArray) (hTx : ∀ w, Door w → Calls Tryd.prog 18 #[.agg #[.int .i64 y, .int .i64 m, .int .i64 d]] w fun e w' => e = .returned (.string T) ∧ Below w.heap.size w w') (hTp : ∀ w, Door w → Calls Tryd.prog 25 #[.string T] w fun e w' => e = .returned (.tuple #[.agg #[.int .i64 y, .int .i64 m, .int .i64 d], .int .i64 0]) ∧ Below w.heap.size w w') (w : World) (D : Door w) : Calls Tryd.prog 7 #[.string s, .agg #[.int .i64 y, .int .i64 m, .int .i64 d]] w fun e w' => e = .returned (.bool true) ∧ Below w.heap.size w w' := by
  have hs60 : ¬ (60 : Int) < ((s.size : Nat) : Int) := by omega
  have K0 := hd_box D y m d 23
  go_enter Tryd.func7, Tryd.ntmps7
  go_wp2_with (fail)
  refine (days_any _ K0.1).mono ?_
  rintro e w1 ⟨rfl, hb⟩
  have K1 := K0.step hb
  clear hb K0
  go_wp2_with (fail)
  refine (hp _ K1.1).mono ?_
  rintro e w2 ⟨rfl, hb⟩
  have K2 := K1.step hb
  clear hb K1
  have K3 := K2.add Y M N 23
  clear K2
  go_wp2
  go_loopw [7, 8] (fun vf vi wr => ∃ (W2 : World) (F : Bool) (j : Nat) (x : Int), W2 = wr ∧ vf = .bool F ∧ vi = .int .i64 x ∧ x = j ∧ j ≤ 10 ∧ F = ((((s.size : Nat) : Int) == 10) && okB s j) ∧ HD w [(w2.heap.size, Y, M, N), (w.heap.size, y, m, d)] W2) (fun _ vi _ => (10 - intOf vi).toNat)
  case atStart => exact ⟨_, _, 0, 0, rfl, rfl, rfl, rfl, by omega, by simp [okB], K3⟩
  case round =>
    obtain ⟨W2, F, j, x, rfl, rfl, rfl, hx, hj, hF, KM⟩ := hrel
    clear K3
    cases F with
    | false =>
      exfalso
      have h10 := form_ok (form_all hf).1
      rw [hf] at h10
      have hs10 : (((s.size : Nat) : Int) == 10) = true := by have := (form_all hf).1; simp; omega
      rw [hs10, Bool.true_and] at hF
      have := okB_mono hF.symm (10 - j)
      rw [show j + (10 - j) = 10 by omega, ← h10] at this
      cases this
    | true =>
      have hF2 : ((((s.size : Nat) : Int) == 10) = true) ∧ okB s j = true := by
        have := hF.symm
        rwa [Bool.and_eq_true] at this
      obtain ⟨hs10, hok⟩ := hF2
      have hsz : s.size = 10 := by have := beq_iff_eq.1 hs10; omega
      by_cases hgo : j < 10
      · have hg : decide (x < 10) = true := by simp; omega
        have hI := fun W => str_bv s j (by omega) x hx W
        obtain ⟨v0, v1⟩ := bv_bd s j
        have HO : okB s (j + 1) = tstB s j := by show (okB s j && tstB s j) = _; rw [hok, Bool.true_and]
        have HS : ((((s.size : Nat) : Int) == 10) && okB s (j + 1)) = tstB s j := by rw [hs10, HO, Bool.true_and]
        have HH := Lib.hid HS
        have HT := Lib.hid (show tstB s j = if j = 4 ∨ j = 7 then (bv s j == 45) else (decide (48 ≤ bv s j) && decide (bv s j ≤ 57)) from rfl)
        have x0 : 0 ≤ x := by omega
        have x9 : x ≤ 9 := by omega
        have HX := Lib.hid hx
        generalize bv s j = v at *
        clear hF hok HO HS hs10
        by_cases h4 : j = 4
        · have q4 : (x == 4) = true := by simp; omega
          have HR := Lib.hid (show tstB s j = (v == 45) by rw [HT.out, if_pos (.inl h4)])
          clear HT h4 hx
          go_wp2
          go_roundw
          case rel => exact ⟨_, _, j + 1, x + 1, rfl, rfl, rfl, by have := HX.out; omega, by omega, by rw [HH.out, HR.out], KM⟩
          case measure => simp [intOf]; omega
        · have q4 : (x == 4) = false := by simp; omega
          by_cases h7 : j = 7
          · have q7 : (x == 7) = true := by simp; omega
            have HR := Lib.hid (show tstB s j = (v == 45) by rw [HT.out, if_pos (.inr h7)])
            clear HT h4 h7 hx
            go_wp2
            go_roundw
            case rel => exact ⟨_, _, j + 1, x + 1, rfl, rfl, rfl, by have := HX.out; omega, by omega, by rw [HH.out, HR.out], KM⟩
            case measure => simp [intOf]; omega
          · have q7 : (x == 7) = false := by simp; omega
            have HR := Lib.hid (show tstB s j = (decide (48 ≤ v) && decide (v ≤ 57)) by rw [HT.out, if_neg (by omega)])
            clear HT h4 h7 hx
            cases h48 : decide (48 ≤ v)
            · have HR2 := Lib.hid (show tstB s j = false by rw [HR.out, h48]; rfl)
              clear HR
              go_wp2
              go_roundw
              case rel => exact ⟨_, _, j + 1, x + 1, rfl, rfl, rfl, by have := HX.out; omega, by omega, by rw [HH.out, HR2.out], KM⟩
              case measure => simp [intOf]; omega
            · have HR2 := Lib.hid (show tstB s j = decide (v ≤ 57) by rw [HR.out, h48]; rfl)
              clear HR
              go_wp2
              go_roundw
              case rel => exact ⟨_, _, j + 1, x + 1, rfl, rfl, rfl, by have := HX.out; omega, by omega, by rw [HH.out, HR2.out], KM⟩
              case measure => simp [intOf]; omega
      · obtain rfl : j = 10 := by omega
        have K50 := KM
        clear KM
        have hg : decide (x < 10) = false := by simp; omega
        clear hF hok hs10 hgo hx
        obtain ⟨y0, z0, x0⟩ := (K50.2.2 (w2.heap.size, Y, M, N) (by simp)).1
        go_wp2_with (fail)
        refine (hXt _ K50.1).mono ?_
        rintro e w10 ⟨rfl, hb⟩
        have K51 := K50.step hb
        clear hb K50
        clear y0 z0 x0
        obtain ⟨y1, z1, x1⟩ := (K51.2.2 (w2.heap.size, Y, M, N) (by simp)).1
        go_wp2_with (fail)
        refine (hXr _).mono ?_
        rintro e w11 ⟨rfl, hb⟩
        have K52 := K51.step hb
        clear hb K51
        clear y1 z1 x1
        obtain ⟨y2, z2, x2⟩ := (K52.2.2 (w.heap.size, y, m, d) (by simp)).1
        go_wp2_with (fail)
        refine (hrd _).mono ?_
        rintro e w20 ⟨rfl, hb⟩
        have K53 := K52.step hb
        clear hb K52
        clear y2 z2 x2
        obtain ⟨y3, z3, x3⟩ := (K53.2.2 (w.heap.size, y, m, d) (by simp)).1
        go_wp2_with (fail)
        refine (hTx _ K53.1).mono ?_
        rintro e w21 ⟨rfl, hb⟩
        have K54 := K53.step hb
        clear hb K53
        clear y3 z3 x3
        go_wp2_with (fail)
        refine (hTp _ K54.1).mono ?_
        rintro e w22 ⟨rfl, hb⟩
        have K55 := K54.step hb
        clear hb K54
        have K56 := K55.add y m d 23
        clear K55
        obtain ⟨y4, z4, x4⟩ := (K56.2.2 (w.heap.size, y, m, d) (by simp)).1
        obtain ⟨y5, z5, x5⟩ := (K56.2.2 (w22.heap.size, y, m, d) (by simp)).1
        have BE := K56.2.1
        go_wp2
        go_ret
        exact ⟨rfl, BE⟩
set_option maxRecDepth 100000 in
set_option maxHeartbeats 2000000 in
theorem texts_none0 (s : ByteArray) (y m d : Int) (hs : ¬ 60 < s.size) (hp : ∀ w, Door w → Calls Tryd.prog 25 #[.string s] w fun e w' => e = .returned (.tuple #[.agg #[.int .i64 0, .int .i64 0, .int .i64 0], .int .i64 30]) ∧ Below w.heap.size w w') (hf : formB s.data.toList = true) (hXr : ∀ w, Calls Tryd.prog 26 #[.agg #[.int .i64 ((bv s 0 - 48) * 1000 + (bv s 1 - 48) * 100 + (bv s 2 - 48) * 10 + (bv s 3 - 48)), .int .i64 ((bv s 5 - 48) * 10 + (bv s 6 - 48)), .int .i64 ((bv s 8 - 48) * 10 + (bv s 9 - 48))]] w fun e w' => e = .returned (.bool false) ∧ Below w.heap.size w w') (hrd : ∀ w, Calls Tryd.prog 26 #[.agg #[.int .i64 y, .int .i64 m, .int .i64 d]] w fun e w' => e = .returned (.bool false) ∧ Below w.heap.size w w') (w : World) (D : Door w) : Calls Tryd.prog 7 #[.string s, .agg #[.int .i64 y, .int .i64 m, .int .i64 d]] w fun e w' => e = .returned (.bool true) ∧ Below w.heap.size w w' := by
  have hs60 : ¬ (60 : Int) < ((s.size : Nat) : Int) := by omega
  have K0 := hd_box D y m d 23
  go_enter Tryd.func7, Tryd.ntmps7
  go_wp2_with (fail)
  refine (days_any _ K0.1).mono ?_
  rintro e w1 ⟨rfl, hb⟩
  have K1 := K0.step hb
  clear hb K0
  go_wp2_with (fail)
  refine (hp _ K1.1).mono ?_
  rintro e w2 ⟨rfl, hb⟩
  have K2 := K1.step hb
  clear hb K1
  have K3 := K2.add 0 0 0 23
  clear K2
  go_wp2
  go_loopw [7, 8] (fun vf vi wr => ∃ (W2 : World) (F : Bool) (j : Nat) (x : Int), W2 = wr ∧ vf = .bool F ∧ vi = .int .i64 x ∧ x = j ∧ j ≤ 10 ∧ F = ((((s.size : Nat) : Int) == 10) && okB s j) ∧ HD w [(w2.heap.size, 0, 0, 0), (w.heap.size, y, m, d)] W2) (fun _ vi _ => (10 - intOf vi).toNat)
  case atStart => exact ⟨_, _, 0, 0, rfl, rfl, rfl, rfl, by omega, by simp [okB], K3⟩
  case round =>
    obtain ⟨W2, F, j, x, rfl, rfl, rfl, hx, hj, hF, KM⟩ := hrel
    clear K3
    cases F with
    | false =>
      exfalso
      have h10 := form_ok (form_all hf).1
      rw [hf] at h10
      have hs10 : (((s.size : Nat) : Int) == 10) = true := by have := (form_all hf).1; simp; omega
      rw [hs10, Bool.true_and] at hF
      have := okB_mono hF.symm (10 - j)
      rw [show j + (10 - j) = 10 by omega, ← h10] at this
      cases this
    | true =>
      have hF2 : ((((s.size : Nat) : Int) == 10) = true) ∧ okB s j = true := by
        have := hF.symm
        rwa [Bool.and_eq_true] at this
      obtain ⟨hs10, hok⟩ := hF2
      have hsz : s.size = 10 := by have := beq_iff_eq.1 hs10; omega
      by_cases hgo : j < 10
      · have hg : decide (x < 10) = true := by simp; omega
        have hI := fun W => str_bv s j (by omega) x hx W
        obtain ⟨v0, v1⟩ := bv_bd s j
        have HO : okB s (j + 1) = tstB s j := by show (okB s j && tstB s j) = _; rw [hok, Bool.true_and]
        have HS : ((((s.size : Nat) : Int) == 10) && okB s (j + 1)) = tstB s j := by rw [hs10, HO, Bool.true_and]
        have HH := Lib.hid HS
        have HT := Lib.hid (show tstB s j = if j = 4 ∨ j = 7 then (bv s j == 45) else (decide (48 ≤ bv s j) && decide (bv s j ≤ 57)) from rfl)
        have x0 : 0 ≤ x := by omega
        have x9 : x ≤ 9 := by omega
        have HX := Lib.hid hx
        generalize bv s j = v at *
        clear hF hok HO HS hs10
        by_cases h4 : j = 4
        · have q4 : (x == 4) = true := by simp; omega
          have HR := Lib.hid (show tstB s j = (v == 45) by rw [HT.out, if_pos (.inl h4)])
          clear HT h4 hx
          go_wp2
          go_roundw
          case rel => exact ⟨_, _, j + 1, x + 1, rfl, rfl, rfl, by have := HX.out; omega, by omega, by rw [HH.out, HR.out], KM⟩
          case measure => simp [intOf]; omega
        · have q4 : (x == 4) = false := by simp; omega
          by_cases h7 : j = 7
          · have q7 : (x == 7) = true := by simp; omega
            have HR := Lib.hid (show tstB s j = (v == 45) by rw [HT.out, if_pos (.inr h7)])
            clear HT h4 h7 hx
            go_wp2
            go_roundw
            case rel => exact ⟨_, _, j + 1, x + 1, rfl, rfl, rfl, by have := HX.out; omega, by omega, by rw [HH.out, HR.out], KM⟩
            case measure => simp [intOf]; omega
          · have q7 : (x == 7) = false := by simp; omega
            have HR := Lib.hid (show tstB s j = (decide (48 ≤ v) && decide (v ≤ 57)) by rw [HT.out, if_neg (by omega)])
            clear HT h4 h7 hx
            cases h48 : decide (48 ≤ v)
            · have HR2 := Lib.hid (show tstB s j = false by rw [HR.out, h48]; rfl)
              clear HR
              go_wp2
              go_roundw
              case rel => exact ⟨_, _, j + 1, x + 1, rfl, rfl, rfl, by have := HX.out; omega, by omega, by rw [HH.out, HR2.out], KM⟩
              case measure => simp [intOf]; omega
            · have HR2 := Lib.hid (show tstB s j = decide (v ≤ 57) by rw [HR.out, h48]; rfl)
              clear HR
              go_wp2
              go_roundw
              case rel => exact ⟨_, _, j + 1, x + 1, rfl, rfl, rfl, by have := HX.out; omega, by omega, by rw [HH.out, HR2.out], KM⟩
              case measure => simp [intOf]; omega
      · obtain rfl : j = 10 := by omega
        have K50 := KM
        clear KM
        have hg : decide (x < 10) = false := by simp; omega
        clear hF hok hs10 hgo hx
        have I0 := fun W => str_bv s 0 (by omega) 0 rfl W
        have I1 := fun W => str_bv s 1 (by omega) 1 rfl W
        have I2 := fun W => str_bv s 2 (by omega) 2 rfl W
        have I3 := fun W => str_bv s 3 (by omega) 3 rfl W
        have I5 := fun W => str_bv s 5 (by omega) 5 rfl W
        have I6 := fun W => str_bv s 6 (by omega) 6 rfl W
        have I8 := fun W => str_bv s 8 (by omega) 8 rfl W
        have I9 := fun W => str_bv s 9 (by omega) 9 rfl W
        obtain ⟨_, ⟨B0, C0⟩, ⟨B1, C1⟩, ⟨B2, C2⟩, ⟨B3, C3⟩, ⟨B5, C5⟩, ⟨B6, C6⟩, ⟨B8, C8⟩, ⟨B9, C9⟩, _⟩ := form_all hf
        clear hf
        generalize bv s 0 = e0 at *
        generalize bv s 1 = e1 at *
        generalize bv s 2 = e2 at *
        generalize bv s 3 = e3 at *
        generalize bv s 5 = e5 at *
        generalize bv s 6 = e6 at *
        generalize bv s 8 = e8 at *
        generalize bv s 9 = e9 at *
        have M0 : IntKind.i64.wrap (IntKind.i64.wrap (IntKind.i64.wrap (IntKind.u8.wrap (e5 - 48)) * 10) + IntKind.i64.wrap (IntKind.u8.wrap (e6 - 48))) = (e5 - 48) * 10 + (e6 - 48) := by
          rw [IntWalk.u8_in (e5 - 48) (by omega), IntWalk.u8_in (e6 - 48) (by omega), IntWalk.i64_in (e5 - 48) (by omega), IntWalk.i64_in (e6 - 48) (by omega), IntWalk.i64_in ((e5 - 48) * 10) (by omega), IntWalk.i64_in _ (by omega)]
        have M1 : IntKind.i64.wrap (IntKind.i64.wrap (IntKind.i64.wrap (IntKind.u8.wrap (e8 - 48)) * 10) + IntKind.i64.wrap (IntKind.u8.wrap (e9 - 48))) = (e8 - 48) * 10 + (e9 - 48) := by
          rw [IntWalk.u8_in (e8 - 48) (by omega), IntWalk.u8_in (e9 - 48) (by omega), IntWalk.i64_in (e8 - 48) (by omega), IntWalk.i64_in (e9 - 48) (by omega), IntWalk.i64_in ((e8 - 48) * 10) (by omega), IntWalk.i64_in _ (by omega)]
        have HM0 := Lib.hid M0
        have HM1 := Lib.hid M1
        clear M0 M1
        obtain ⟨y0, z0, x0⟩ := (K50.2.2 (w2.heap.size, 0, 0, 0) (by simp)).1
        go_wp2
        go_quiet (fail)
        rename_i nq _ _
        have KQ := K50.step (below_dn (Below.refl _ _) nq)
        clear K50
        generalize W2.drewN nq = W3 at *
        obtain ⟨c0, c1, c2⟩ := (KQ.2.2 (w2.heap.size, 0, 0, 0) (by simp)).1
        have k0 := fun d os => cell_regrown c0 d os
        have k1 := fun d os => cell_regrown c1 d os
        have k2 := fun d os => cell_regrown c2 d os
        have cX : ∀ dd os, Calls Tryd.prog 26 #[.agg #[.int .i64 ((e0 - 48) * 1000 + (e1 - 48) * 100 + (e2 - 48) * 10 + (e3 - 48)), .int .i64 ((e5 - 48) * 10 + (e6 - 48)), .int .i64 ((e8 - 48) * 10 + (e9 - 48))]] (grow (redrawn W3 dd) os) fun e w'' => e = .returned (.bool false) ∧ ∃ p : Regrown, w'' = grow (redrawn W3 p.d) p.os := fun dd os => Calls.regrown_of (hXr _)
        clear c0 c1 c2 hXr hp
        go_wp2_with (fail)
        refine wp_region_quiet_below mixedAll (by kernel_rfl) ?_
        repeat (quiet_step (first | (rw [HM0.out, HM1.out]; exact cX _ _)))
        refine wpQuiet_nil ?_
        intro _ hw'
        obtain ⟨⟨dq, osq⟩, hw''⟩ := hw'
        subst hw''
        have K60 := KQ.step (below_regrown W3 dq osq)
        clear KQ k0 k1 k2 cX
        obtain ⟨y1, z1, x1⟩ := (K60.2.2 (w.heap.size, y, m, d) (by simp)).1
        go_wp2_with (fail)
        refine (hrd _).mono ?_
        rintro e w20 ⟨rfl, hb⟩
        have K61 := K60.step hb
        clear hb K60
        clear y1 z1 x1
        have BE := K61.2.1
        go_wp2
        go_ret
        exact ⟨rfl, BE⟩
set_option maxRecDepth 100000 in
set_option maxHeartbeats 2000000 in
theorem texts_none1 (s : ByteArray) (y m d : Int) (hs : ¬ 60 < s.size) (hp : ∀ w, Door w → Calls Tryd.prog 25 #[.string s] w fun e w' => e = .returned (.tuple #[.agg #[.int .i64 0, .int .i64 0, .int .i64 0], .int .i64 30]) ∧ Below w.heap.size w w') (hf : formB s.data.toList = true) (hXr : ∀ w, Calls Tryd.prog 26 #[.agg #[.int .i64 ((bv s 0 - 48) * 1000 + (bv s 1 - 48) * 100 + (bv s 2 - 48) * 10 + (bv s 3 - 48)), .int .i64 ((bv s 5 - 48) * 10 + (bv s 6 - 48)), .int .i64 ((bv s 8 - 48) * 10 + (bv s 9 - 48))]] w fun e w' => e = .returned (.bool false) ∧ Below w.heap.size w w') (hrd : ∀ w, Calls Tryd.prog 26 #[.agg #[.int .i64 y, .int .i64 m, .int .i64 d]] w fun e w' => e = .returned (.bool true) ∧ Below w.heap.size w w') (T : ByteArray) (hTx : ∀ w, Door w → Calls Tryd.prog 18 #[.agg #[.int .i64 y, .int .i64 m, .int .i64 d]] w fun e w' => e = .returned (.string T) ∧ Below w.heap.size w w') (hTp : ∀ w, Door w → Calls Tryd.prog 25 #[.string T] w fun e w' => e = .returned (.tuple #[.agg #[.int .i64 y, .int .i64 m, .int .i64 d], .int .i64 0]) ∧ Below w.heap.size w w') (w : World) (D : Door w) : Calls Tryd.prog 7 #[.string s, .agg #[.int .i64 y, .int .i64 m, .int .i64 d]] w fun e w' => e = .returned (.bool true) ∧ Below w.heap.size w w' := by
  have hs60 : ¬ (60 : Int) < ((s.size : Nat) : Int) := by omega
  have K0 := hd_box D y m d 23
  go_enter Tryd.func7, Tryd.ntmps7
  go_wp2_with (fail)
  refine (days_any _ K0.1).mono ?_
  rintro e w1 ⟨rfl, hb⟩
  have K1 := K0.step hb
  clear hb K0
  go_wp2_with (fail)
  refine (hp _ K1.1).mono ?_
  rintro e w2 ⟨rfl, hb⟩
  have K2 := K1.step hb
  clear hb K1
  have K3 := K2.add 0 0 0 23
  clear K2
  go_wp2
  go_loopw [7, 8] (fun vf vi wr => ∃ (W2 : World) (F : Bool) (j : Nat) (x : Int), W2 = wr ∧ vf = .bool F ∧ vi = .int .i64 x ∧ x = j ∧ j ≤ 10 ∧ F = ((((s.size : Nat) : Int) == 10) && okB s j) ∧ HD w [(w2.heap.size, 0, 0, 0), (w.heap.size, y, m, d)] W2) (fun _ vi _ => (10 - intOf vi).toNat)
  case atStart => exact ⟨_, _, 0, 0, rfl, rfl, rfl, rfl, by omega, by simp [okB], K3⟩
  case round =>
    obtain ⟨W2, F, j, x, rfl, rfl, rfl, hx, hj, hF, KM⟩ := hrel
    clear K3
    cases F with
    | false =>
      exfalso
      have h10 := form_ok (form_all hf).1
      rw [hf] at h10
      have hs10 : (((s.size : Nat) : Int) == 10) = true := by have := (form_all hf).1; simp; omega
      rw [hs10, Bool.true_and] at hF
      have := okB_mono hF.symm (10 - j)
      rw [show j + (10 - j) = 10 by omega, ← h10] at this
      cases this
    | true =>
      have hF2 : ((((s.size : Nat) : Int) == 10) = true) ∧ okB s j = true := by
        have := hF.symm
        rwa [Bool.and_eq_true] at this
      obtain ⟨hs10, hok⟩ := hF2
      have hsz : s.size = 10 := by have := beq_iff_eq.1 hs10; omega
      by_cases hgo : j < 10
      · have hg : decide (x < 10) = true := by simp; omega
        have hI := fun W => str_bv s j (by omega) x hx W
        obtain ⟨v0, v1⟩ := bv_bd s j
        have HO : okB s (j + 1) = tstB s j := by show (okB s j && tstB s j) = _; rw [hok, Bool.true_and]
        have HS : ((((s.size : Nat) : Int) == 10) && okB s (j + 1)) = tstB s j := by rw [hs10, HO, Bool.true_and]
        have HH := Lib.hid HS
        have HT := Lib.hid (show tstB s j = if j = 4 ∨ j = 7 then (bv s j == 45) else (decide (48 ≤ bv s j) && decide (bv s j ≤ 57)) from rfl)
        have x0 : 0 ≤ x := by omega
        have x9 : x ≤ 9 := by omega
        have HX := Lib.hid hx
        generalize bv s j = v at *
        clear hF hok HO HS hs10
        by_cases h4 : j = 4
        · have q4 : (x == 4) = true := by simp; omega
          have HR := Lib.hid (show tstB s j = (v == 45) by rw [HT.out, if_pos (.inl h4)])
          clear HT h4 hx
          go_wp2
          go_roundw
          case rel => exact ⟨_, _, j + 1, x + 1, rfl, rfl, rfl, by have := HX.out; omega, by omega, by rw [HH.out, HR.out], KM⟩
          case measure => simp [intOf]; omega
        · have q4 : (x == 4) = false := by simp; omega
          by_cases h7 : j = 7
          · have q7 : (x == 7) = true := by simp; omega
            have HR := Lib.hid (show tstB s j = (v == 45) by rw [HT.out, if_pos (.inr h7)])
            clear HT h4 h7 hx
            go_wp2
            go_roundw
            case rel => exact ⟨_, _, j + 1, x + 1, rfl, rfl, rfl, by have := HX.out; omega, by omega, by rw [HH.out, HR.out], KM⟩
            case measure => simp [intOf]; omega
          · have q7 : (x == 7) = false := by simp; omega
            have HR := Lib.hid (show tstB s j = (decide (48 ≤ v) && decide (v ≤ 57)) by rw [HT.out, if_neg (by omega)])
            clear HT h4 h7 hx
            cases h48 : decide (48 ≤ v)
            · have HR2 := Lib.hid (show tstB s j = false by rw [HR.out, h48]; rfl)
              clear HR
              go_wp2
              go_roundw
              case rel => exact ⟨_, _, j + 1, x + 1, rfl, rfl, rfl, by have := HX.out; omega, by omega, by rw [HH.out, HR2.out], KM⟩
              case measure => simp [intOf]; omega
            · have HR2 := Lib.hid (show tstB s j = decide (v ≤ 57) by rw [HR.out, h48]; rfl)
              clear HR
              go_wp2
              go_roundw
              case rel => exact ⟨_, _, j + 1, x + 1, rfl, rfl, rfl, by have := HX.out; omega, by omega, by rw [HH.out, HR2.out], KM⟩
              case measure => simp [intOf]; omega
      · obtain rfl : j = 10 := by omega
        have K50 := KM
        clear KM
        have hg : decide (x < 10) = false := by simp; omega
        clear hF hok hs10 hgo hx
        have I0 := fun W => str_bv s 0 (by omega) 0 rfl W
        have I1 := fun W => str_bv s 1 (by omega) 1 rfl W
        have I2 := fun W => str_bv s 2 (by omega) 2 rfl W
        have I3 := fun W => str_bv s 3 (by omega) 3 rfl W
        have I5 := fun W => str_bv s 5 (by omega) 5 rfl W
        have I6 := fun W => str_bv s 6 (by omega) 6 rfl W
        have I8 := fun W => str_bv s 8 (by omega) 8 rfl W
        have I9 := fun W => str_bv s 9 (by omega) 9 rfl W
        obtain ⟨_, ⟨B0, C0⟩, ⟨B1, C1⟩, ⟨B2, C2⟩, ⟨B3, C3⟩, ⟨B5, C5⟩, ⟨B6, C6⟩, ⟨B8, C8⟩, ⟨B9, C9⟩, _⟩ := form_all hf
        clear hf
        generalize bv s 0 = e0 at *
        generalize bv s 1 = e1 at *
        generalize bv s 2 = e2 at *
        generalize bv s 3 = e3 at *
        generalize bv s 5 = e5 at *
        generalize bv s 6 = e6 at *
        generalize bv s 8 = e8 at *
        generalize bv s 9 = e9 at *
        have M0 : IntKind.i64.wrap (IntKind.i64.wrap (IntKind.i64.wrap (IntKind.u8.wrap (e5 - 48)) * 10) + IntKind.i64.wrap (IntKind.u8.wrap (e6 - 48))) = (e5 - 48) * 10 + (e6 - 48) := by
          rw [IntWalk.u8_in (e5 - 48) (by omega), IntWalk.u8_in (e6 - 48) (by omega), IntWalk.i64_in (e5 - 48) (by omega), IntWalk.i64_in (e6 - 48) (by omega), IntWalk.i64_in ((e5 - 48) * 10) (by omega), IntWalk.i64_in _ (by omega)]
        have M1 : IntKind.i64.wrap (IntKind.i64.wrap (IntKind.i64.wrap (IntKind.u8.wrap (e8 - 48)) * 10) + IntKind.i64.wrap (IntKind.u8.wrap (e9 - 48))) = (e8 - 48) * 10 + (e9 - 48) := by
          rw [IntWalk.u8_in (e8 - 48) (by omega), IntWalk.u8_in (e9 - 48) (by omega), IntWalk.i64_in (e8 - 48) (by omega), IntWalk.i64_in (e9 - 48) (by omega), IntWalk.i64_in ((e8 - 48) * 10) (by omega), IntWalk.i64_in _ (by omega)]
        have HM0 := Lib.hid M0
        have HM1 := Lib.hid M1
        clear M0 M1
        obtain ⟨y0, z0, x0⟩ := (K50.2.2 (w2.heap.size, 0, 0, 0) (by simp)).1
        go_wp2
        go_quiet (fail)
        rename_i nq _ _
        have KQ := K50.step (below_dn (Below.refl _ _) nq)
        clear K50
        generalize W2.drewN nq = W3 at *
        obtain ⟨c0, c1, c2⟩ := (KQ.2.2 (w2.heap.size, 0, 0, 0) (by simp)).1
        have k0 := fun d os => cell_regrown c0 d os
        have k1 := fun d os => cell_regrown c1 d os
        have k2 := fun d os => cell_regrown c2 d os
        have cX : ∀ dd os, Calls Tryd.prog 26 #[.agg #[.int .i64 ((e0 - 48) * 1000 + (e1 - 48) * 100 + (e2 - 48) * 10 + (e3 - 48)), .int .i64 ((e5 - 48) * 10 + (e6 - 48)), .int .i64 ((e8 - 48) * 10 + (e9 - 48))]] (grow (redrawn W3 dd) os) fun e w'' => e = .returned (.bool false) ∧ ∃ p : Regrown, w'' = grow (redrawn W3 p.d) p.os := fun dd os => Calls.regrown_of (hXr _)
        clear c0 c1 c2 hXr hp
        go_wp2_with (fail)
        refine wp_region_quiet_below mixedAll (by kernel_rfl) ?_
        repeat (quiet_step (first | (rw [HM0.out, HM1.out]; exact cX _ _)))
        refine wpQuiet_nil ?_
        intro _ hw'
        obtain ⟨⟨dq, osq⟩, hw''⟩ := hw'
        subst hw''
        have K60 := KQ.step (below_regrown W3 dq osq)
        clear KQ k0 k1 k2 cX
        obtain ⟨y1, z1, x1⟩ := (K60.2.2 (w.heap.size, y, m, d) (by simp)).1
        go_wp2_with (fail)
        refine (hrd _).mono ?_
        rintro e w20 ⟨rfl, hb⟩
        have K61 := K60.step hb
        clear hb K60
        clear y1 z1 x1
        obtain ⟨y2, z2, x2⟩ := (K61.2.2 (w.heap.size, y, m, d) (by simp)).1
        go_wp2_with (fail)
        refine (hTx _ K61.1).mono ?_
        rintro e w21 ⟨rfl, hb⟩
        have K62 := K61.step hb
        clear hb K61
        clear y2 z2 x2
        go_wp2_with (fail)
        refine (hTp _ K62.1).mono ?_
        rintro e w22 ⟨rfl, hb⟩
        have K63 := K62.step hb
        clear hb K62
        have K64 := K63.add y m d 23
        clear K63
        obtain ⟨y3, z3, x3⟩ := (K64.2.2 (w.heap.size, y, m, d) (by simp)).1
        obtain ⟨y4, z4, x4⟩ := (K64.2.2 (w22.heap.size, y, m, d) (by simp)).1
        have BE := K64.2.1
        go_wp2
        go_ret
        exact ⟨rfl, BE⟩
theorem texts_long (s : ByteArray) (y m d : Int) (hs : 60 < s.size) (w : World) (D : Door w) : Calls Tryd.prog 7 #[.string s, .agg #[.int .i64 y, .int .i64 m, .int .i64 d]] w fun e w' => e = .returned (.bool true) ∧ Below w.heap.size w w' := by
  have hs60 : (60 : Int) < ((s.size : Nat) : Int) := by omega
  have K0 := hd_box D y m d 23
  go_enter Tryd.func7, Tryd.ntmps7
  go_wp2_with (fail)
  refine (days_any _ K0.1).mono ?_
  rintro e w1 ⟨rfl, hb⟩
  have BE := (K0.step hb).2.1
  clear hb K0
  go_wp2
  go_ret
  exact ⟨rfl, BE⟩
theorem wDateTexts (s : ByteArray) (y m d : Int) (w : World) (D : Door w) : Calls Tryd.prog 7 #[.string s, .agg #[.int .i64 y, .int .i64 m, .int .i64 d]] w fun e w' => e = .returned (.bool true) ∧ Below w.heap.size w w' := by
  by_cases hs : 60 < s.size
  · exact texts_long s y m d hs w D
  · have hp := fun w D => parse_any s (by omega) w D
    have hT : ∀ (_ : dayB y m d = true), (∀ w, Door w → Calls Tryd.prog 25 #[.string ⟨(txtD y m d).toArray⟩] w fun e w' => e = .returned (.tuple #[.agg #[.int .i64 y, .int .i64 m, .int .i64 d], .int .i64 0]) ∧ Below w.heap.size w w') := fun h w D => by
      obtain ⟨a1, a2, a3, a4, a5, a6⟩ := dayB_yes h
      have a7 := (ml_bd y m).2
      obtain ⟨f0, f1, f2, f3⟩ := form_txt (y := y) (m := m) (d := d) ⟨by omega, by omega⟩ ⟨by omega, by omega⟩ ⟨by omega, by omega⟩
      have hl := form_len f0
      have := parse_any ⟨(txtD y m d).toArray⟩ (by show (txtD y m d).toArray.size ≤ 1000; simp; omega) w D
      unfold paV at this
      simp only at this
      rw [if_pos f0, f1, f2, f3, if_pos h] at this
      exact this
    cases h : dayB y m d
    all_goals cases hf : formB s.data.toList
    · have hv : paV s = .tuple #[.agg #[.int .i64 0, .int .i64 0, .int .i64 0], .int .i64 5] := by unfold paV; rw [hf]; rfl
      rw [hv] at hp
      exact texts_noform0 s y m d hs hp hf (rright_b y m d false h) w D
    · cases hd : dayB (vY s.data.toList) (vM s.data.toList) (vD s.data.toList)
      · have hv : paV s = .tuple #[.agg #[.int .i64 0, .int .i64 0, .int .i64 0], .int .i64 30] := by unfold paV; rw [hf, hd]; rfl
        rw [hv] at hp
        obtain ⟨_, _, _, _, _, _, _, _, _, x1, x2, x3⟩ := form_all hf
        rw [x1, x2, x3] at hd
        exact texts_none0 s y m d hs hp hf (rright_b _ _ _ false hd) (rright_b y m d false h) w D
      · have hv : paV s = .tuple #[.agg #[.int .i64 (vY s.data.toList), .int .i64 (vM s.data.toList), .int .i64 (vD s.data.toList)], .int .i64 0] := by unfold paV; rw [hf, hd]; rfl
        rw [hv] at hp
        have hx := text_yes _ _ _ hd
        rw [txt_back hf] at hx
        exact texts_day0 s y m d _ _ _ hs hp hf hx (rright_b _ _ _ true hd) (rright_b y m d false h) w D
    · have hv : paV s = .tuple #[.agg #[.int .i64 0, .int .i64 0, .int .i64 0], .int .i64 5] := by unfold paV; rw [hf]; rfl
      rw [hv] at hp
      exact texts_noform1 s y m d hs hp hf (rright_b y m d true h) _ (text_yes y m d h) (hT h) w D
    · cases hd : dayB (vY s.data.toList) (vM s.data.toList) (vD s.data.toList)
      · have hv : paV s = .tuple #[.agg #[.int .i64 0, .int .i64 0, .int .i64 0], .int .i64 30] := by unfold paV; rw [hf, hd]; rfl
        rw [hv] at hp
        obtain ⟨_, _, _, _, _, _, _, _, _, x1, x2, x3⟩ := form_all hf
        rw [x1, x2, x3] at hd
        exact texts_none1 s y m d hs hp hf (rright_b _ _ _ false hd) (rright_b y m d true h) _ (text_yes y m d h) (hT h) w D
      · have hv : paV s = .tuple #[.agg #[.int .i64 (vY s.data.toList), .int .i64 (vM s.data.toList), .int .i64 (vD s.data.toList)], .int .i64 0] := by unfold paV; rw [hf, hd]; rfl
        rw [hv] at hp
        have hx := text_yes _ _ _ hd
        rw [txt_back hf] at hx
        exact texts_day1 s y m d _ _ _ hs hp hf hx (rright_b _ _ _ true hd) (rright_b y m d true h) _ (text_yes y m d h) (hT h) w D
end Go.Proofs.YtkgfmanolanlhaaDoor
