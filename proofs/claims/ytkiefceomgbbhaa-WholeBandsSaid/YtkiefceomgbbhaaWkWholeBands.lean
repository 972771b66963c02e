/- The walk of the law WholeBands. -/
import Derived.Test.YtkiefceomgbbhaaPairE
import Derived.Test.YtkiefceomgbbhaaPostB
namespace Go.Proofs.Ytkiefceomgbbhaa
open Go.RowKit Go.Sort
set_option linter.unusedVariables false

theorem row_below {w w' : World} {A : Option Addr} {n : Nat} {f : Nat → Value} (h : rowAt w A n f) (hb : Below w.heap.size w w') : rowAt w' A n f := fun hn => by
  obtain ⟨b, o, e, hc⟩ := h hn
  exact ⟨b, o, e, fun i hi => cell_later hb (hc i hi)⟩
theorem check_big (A : Option Addr) (n c : Nat) (w : World) (F R E : Nat → Int) (h : Bds w A n F R E) (hn : n ≤ 9223372036854775807) :
    Calls Try.prog 18 #[.slice A n c] w fun e w' => e = .returned (.int .i64 (chk F R E n)) ∧ Below w.heap.size w w' := by
  by_cases h1 : 8 < n
  · have hE : chk F R E n = 2 := if_pos (.inr h1)
    have HE := Lib.hid hE
    clear hE h
    have b1 : ((n : Int) == 0) = false := by simp; omega
    go_enter Try.func18, Try.ntmps18
    go_wp2
    go_ret
    exact ⟨ret_i HE.out.symm, Below.refl _ _⟩
  · exact check_any A n c w F R E h (by omega)
def hF (i : Nat) : Int := 0
def hR (i : Nat) : Int := 3
def hE (i : Nat) : Int := 4
theorem one_ok : Okb hF hR hE 1 := okb_of (by decide)
def csm (f : Nat → Int) : Nat → Int
  | 0 => 0
  | k + 1 => csm f k + f k
theorem exact_zero {F R : Nat → Int} {n : Nat} (hn : 1 ≤ n) (hI : Inc F n) (hFt : Fit F n) : exactV F R n 0 = 0 := by
  rw [exact_G hn hI hFt, G_zero hFt]
set_option maxHeartbeats 8000000 in
set_option maxRecDepth 100000 in
theorem wWholeBands (A : Option Addr) (n c : Nat) (F R E : Nat → Int) (A' : Option Addr) (n' c' : Nat) (f : Nat → Int) (m : Int) (w : World) (h : Bds w A n F R E) (hn : n ≤ 9223372036854775807) (hf : ∀ i, i < n → fits (F i) ∧ fits (R i) ∧ fits (E i))
    (hr : rowAt w A' n' fun i => .int .i64 (f i)) (hn' : n' ≤ 9223372036854775807) (hf' : ∀ i, -9223372036854775808 ≤ f i ∧ f i ≤ 9223372036854775807) (hm : -9223372036854775808 ≤ m) (hm' : m ≤ 9223372036854775807) :
    Calls Try.prog 13 #[.slice A n c, .slice A' n' c', .int .i64 m] w fun e w' => e = .returned (.bool true) ∧ Below w.heap.size w w' := by
  have q1 : exactV hF hR 1 10 = 30 := by decide
  have q2 : exactV hF hE 1 10 = 40 := by decide
  have b0 : Below w.heap.size w (w.alloc (.cells #[.int .i64 0, .int .i64 3, .int .i64 4] 37)) := (Below.refl _ _).alloc (Nat.le_refl _) _
  have B0 : Bds (w.alloc (.cells #[.int .i64 0, .int .i64 3, .int .i64 4] 37)) (some ⟨w.heap.size, 0, none⟩) 1 hF hR hE := fun _ =>
    ⟨_, _, rfl, fun i hi => by
      obtain rfl : i = 0 := by omega
      simp [World.cell?_alloc_new, hF, hR, hE]⟩
  have hd := banded_ok 1 1 10 _ hF hR hE _ B0 one_ok (by decide)
  rw [q1, q2] at hd
  have c1 := fun (W : World) (hB : Bds W A n F R E) => check_big A n c W F R E hB hn
  clear q1 q2 B0 hf hm hm'
  by_cases h0 : chk F R E n = 0
  · have ok := okb_of h0
    rw [h0] at c1
    clear h0
    by_cases h40 : 40 < n'
    · have t1 : decide (40 < (n' : Int)) = true := by simp; omega
      clear ok hr hf'
      go_enter Try.func13, Try.ntmps13
      go_wp2_with (fail)
      with_reducible refine hd.mono ?_
      rintro e w1 ⟨sx, sy, rfl, isx, isy, d1⟩
      have hb1 := b0.trans (d1.mono b0.size)
      have h_1 := h.below hb1
      have sA := sides_ok sx sy 30 40 isx isy (by decide) (by decide)
      clear isx isy
      have sB := True.intro
      go_wp2_with (fail)
      with_reducible refine (sA _).mono ?_
      rintro e w' ⟨rfl, rfl⟩
      go_wp2_with (fail)
      with_reducible refine (c1 _ h_1).mono ?_
      rintro e w2 ⟨rfl, d2⟩
      have hb2 := hb1.trans (d2.mono hb1.size)
      have h_2 := h_1.below d2
      go_wp2
      go_ret
      exact ⟨rfl, hb2⟩
    · have t1 : decide (40 < (n' : Int)) = false := by simp; omega
      obtain ⟨o1, o2, oI, oF, oR, oE⟩ := id ok
      have ez := exact_zero (R := R) o1 oI oF
      have cB := fun (x y : Int) (hx : amtB x = true) (hy : amtB y = true) (W : World) (hB : Bds W A n F R E) => between_ok n c x y A F R E W hB ok hx hy
      have ebd := fun (x : Int) (hx : x ≤ 100000000000) => exact_bd (R := R) o1 oI oF oR hx
      have vbd := fun (x : Int) (hx : x ≤ 100000000000) => exact_bd (R := E) o1 oI oF oE hx
      have hn40 : n' ≤ 40 := by omega
      have HCB := Lib.hid cB
      have HEB := Lib.hid ebd
      have HVB := Lib.hid vbd
      have HOK := Lib.hid ok
      have HF := Lib.hid hf'
      have HEZ := Lib.hid ez
      clear cB ebd vbd ok hf' h40 oI oF oR oE ez
      go_enter Try.func13, Try.ntmps13
      go_wp2_with (fail)
      with_reducible refine hd.mono ?_
      rintro e w1 ⟨sx, sy, rfl, isx, isy, d1⟩
      have hb1 := b0.trans (d1.mono b0.size)
      have h_1 := h.below hb1
      have sA := sides_ok sx sy 30 40 isx isy (by decide) (by decide)
      clear isx isy
      have sB := True.intro
      go_wp2_with (fail)
      with_reducible refine (sA _).mono ?_
      rintro e w' ⟨rfl, rfl⟩
      go_wp2_with (fail)
      with_reducible refine (c1 _ h_1).mono ?_
      rintro e w2 ⟨rfl, d2⟩
      have hb2 := hb1.trans (d2.mono hb1.size)
      have h_2 := h_1.below d2
      have hr_2 := row_below hr (b0.trans ((d1.mono b0.size).trans (d2.mono hb1.size)))
      clear hd c1 sA sB d1 d2 h h_1 b0 hb1 hr
      go_wp2
      go_loopw [12, 13, 64] (fun a s v W => ∃ k : Nat, k ≤ n' ∧ v = .int .i64 k ∧ a = .int .i64 (csm f k) ∧ s = .int .i64 (exactV F R n (csm f k)) ∧ 0 ≤ csm f k ∧ csm f k ≤ 2000000000 * k ∧ Below w2.heap.size w2 W) (fun _ _ v _ => n' - (intOf v).toNat)
      case atStart => exact ⟨0, Nat.zero_le _, rfl, rfl, by show Value.int .i64 0 = .int .i64 (exactV F R n 0); rw [HEZ.out], Int.le_refl _, by show (0 : Int) ≤ _; omega, Below.refl _ _⟩
      case round =>
        obtain ⟨k, hk, rfl, rfl, rfl, ha0, ha1, hb⟩ := hrel
        by_cases hlt : k < n'
        · obtain ⟨bb, oo, rfl, hc⟩ := hr_2 (by omega)
          have x0 : wr.cell? ⟨bb, oo + k, none⟩ = some (.int .i64 (f k)) := cell_later hb (hc k hlt)
          have hfk := HF.out k
          have hB := h_2.below hb
          have hs1 : csm f (k + 1) = csm f k + f k := rfl
          have HS1 := Lib.hid hs1
          have hbw := hb2.trans (hb.mono hb2.size)
          obtain ⟨fk1, fk2⟩ := hfk
          clear hc hs1
          by_cases g1 : f k < 0
          · have g2 : decide (f k < 0) = true := by simp; omega
            generalize csm f k = at0 at *
            generalize f k = fk at *
            go_wp2
            go_ret
            exact ⟨rfl, hbw⟩
          · have g2 : decide (f k < 0) = false := by simp; omega
            by_cases g3 : 2000000000 < f k
            · have g4 : decide (2000000000 < f k) = true := by simp; omega
              generalize csm f k = at0 at *
              generalize f k = fk at *
              go_wp2
              go_ret
              exact ⟨rfl, hbw⟩
            · have g4 : decide (2000000000 < f k) = false := by simp; omega
              have cb := fun W hW => HCB.out (csm f k) (csm f k + f k) (amtB_mk (by omega) (by omega)) (amtB_mk (by omega) (by omega)) W hW
              obtain ⟨e1, e2⟩ := HEB.out (csm f k) (by omega)
              obtain ⟨e3, e4⟩ := HEB.out (csm f k + f k) (by omega)
              have n1 : 0 ≤ csm f k + f k := by omega
              have n2 : csm f k + f k ≤ 2000000000 * ((k + 1 : Nat) : Int) := by omega
              have n3 : csm f k + f k ≤ 100000000000 := by omega
              have n4 : csm f k ≤ 100000000000 := by omega
              generalize hu : exactV F R n (csm f k) = u at *
              generalize hv : exactV F R n (csm f k + f k) = v at *
              have HV := Lib.hid hv
              clear hu hv g1 g3
              generalize csm f k = at0 at *
              generalize f k = fk at *
              have o5 : -1000000000000000 ≤ v - u := by omega
              have o6 : v - u ≤ 1000000000000000 := by omega
              have o7 : u + (v - u) = v := by omega
              have HO7 := Lib.hid o7
              clear o7
              go_wp2_with (fail)
              with_reducible refine (cb _ hB).mono ?_
              rintro e w3 ⟨rfl, d3⟩
              have hb3 := hb.trans (d3.mono hb.size)
              go_wp2
              go_roundw
              case rel => exact ⟨k + 1, by omega, by go_num, by rw [HS1.out], by rw [HS1.out, HV.out]; first | rfl | rw [HO7.out], by rw [HS1.out]; exact n1, by rw [HS1.out]; exact n2, hb3⟩
              case measure => first | omega | (simp [intOf]; omega)
        · obtain rfl : k = n' := by omega
          have hB := h_2.below hb
          have hbw := hb2.trans (hb.mono hb2.size)
          have ok := HOK.out
          have hA : amtB (csm f k) = true := amtB_mk (by omega) (by omega)
          have c5 := fun (W : World) (hB : Bds W A n F R E) => Exact_ok n c (csm f k) A F R E W hB ok hA
          have c6 := fun (W : World) (hB : Bds W A n F R E) => Employer_ok n c (csm f k) A F R E W hB ok hA
          have c2 := fun (W : World) (hB : Bds W A n F R E) => banded_ok n c (csm f k) A F R E W hB ok hA
          obtain ⟨u1, u2⟩ := HEB.out (csm f k) (by omega)
          obtain ⟨v1, v2⟩ := HVB.out (csm f k) (by omega)
          generalize exactV F R n (csm f k) = u at *
          generalize exactV F E n (csm f k) = v at *
          generalize csm f k = at0 at *
          have su : sdB u = true := sdB_mk (by omega) (by omega)
          have sv : sdB v = true := sdB_mk (by omega) (by omega)
          have eu : exB u = true := exB_mk (by omega) (by omega)
          have ev : exB v = true := exB_mk (by omega) (by omega)
          have c7 := of_ok2 u v su sv
          have iu := of_is u (by omega)
          have iv := of_is v (by omega)
          generalize floatOfInt .f64 u = fu at *
          generalize floatOfInt .f64 v = fv at *
          clear ok hA hr_2 h_2 hb hb2
          cases hmo : modeB m
          · have s2 := fun sx sy (i1 : Is sx u) (i2 : Is sy v) => pcoins_mode sx sy u v m i1 i2 su sv hmo
            have s3 := fun W => coins_mode u m W eu hmo
            have s4 := fun W => coins_mode v m W ev hmo
            clear su sv eu ev hmo
            go_wp2_with (fail)
            with_reducible refine (c5 _ hB).mono ?_
            rintro e w3 ⟨rfl, d3⟩
            have hb3 := hbw.trans (d3.mono hbw.size)
            have B3 := hB.below d3
            go_wp2_with (fail)
            with_reducible refine (c6 _ B3).mono ?_
            rintro e w4 ⟨rfl, d4⟩
            have hb4 := hb3.trans (d4.mono hb3.size)
            have B4 := B3.below d4
            go_wp2_with (fail)
            with_reducible refine (c2 _ B4).mono ?_
            rintro e w5 ⟨px, py, rfl, ipx, ipy, d5⟩
            have hb5 := hb4.trans (d5.mono hb4.size)
            have p1 := order_eq ipx iu rfl
            have p2 := order_eq ipy iv rfl
            have s2' := s2 px py ipx ipy
            clear s2 ipx ipy iu iv
            go_wp2_with (fail)
            with_reducible refine (c7 _).mono ?_
            rintro e w' ⟨rfl, rfl⟩
            go_wp2_with (fail)
            with_reducible refine (s2' _).mono ?_
            rintro e w6 ⟨rfl, d6⟩
            have hb6 := hb5.trans (d6.mono hb5.size)
            have p6 := P2.new w6 (0) (0) 65
            have hb8 := hb6.alloc hb6.size (.cells #[.int .i64 (0), .int .i64 (0)] 65)
            clear c2 c5 c6 c7 s2' d3 d4 d5 d6 hB B3 B4
            go_wp2_with (fail)
            with_reducible refine (s3 _).mono ?_
            rintro e w' ⟨rfl, rfl⟩
            go_wp2_with (fail)
            with_reducible refine (s4 _).mono ?_
            rintro e w' ⟨rfl, rfl⟩
            go_wp2
            go_ret
            exact ⟨rfl, hb8⟩
          · have s2 := fun sx sy (i1 : Is sx u) (i2 : Is sy v) => pcoins_ok sx sy u v m i1 i2 su sv hmo
            have s3 := fun W => coins_ok u m W eu hmo
            have s4 := fun W => coins_ok v m W ev hmo
            generalize rnd u 10000 m = ru at *
            generalize rnd v 10000 m = rv at *
            clear su sv eu ev hmo
            go_wp2_with (fail)
            with_reducible refine (c5 _ hB).mono ?_
            rintro e w3 ⟨rfl, d3⟩
            have hb3 := hbw.trans (d3.mono hbw.size)
            have B3 := hB.below d3
            go_wp2_with (fail)
            with_reducible refine (c6 _ B3).mono ?_
            rintro e w4 ⟨rfl, d4⟩
            have hb4 := hb3.trans (d4.mono hb3.size)
            have B4 := B3.below d4
            go_wp2_with (fail)
            with_reducible refine (c2 _ B4).mono ?_
            rintro e w5 ⟨px, py, rfl, ipx, ipy, d5⟩
            have hb5 := hb4.trans (d5.mono hb4.size)
            have p1 := order_eq ipx iu rfl
            have p2 := order_eq ipy iv rfl
            have s2' := s2 px py ipx ipy
            clear s2 ipx ipy iu iv
            go_wp2_with (fail)
            with_reducible refine (c7 _).mono ?_
            rintro e w' ⟨rfl, rfl⟩
            go_wp2_with (fail)
            with_reducible refine (s2' _).mono ?_
            rintro e w6 ⟨rfl, d6⟩
            have hb6 := hb5.trans (d6.mono hb5.size)
            have p6 := P2.new w6 (ru) (rv) 65
            have hb8 := hb6.alloc hb6.size (.cells #[.int .i64 (ru), .int .i64 (rv)] 65)
            clear c2 c5 c6 c7 s2' d3 d4 d5 d6 hB B3 B4
            go_wp2_with (fail)
            with_reducible refine (s3 _).mono ?_
            rintro e w' ⟨rfl, k3, rfl⟩
            go_wp2_with (fail)
            with_reducible refine (s4 _).mono ?_
            rintro e w' ⟨rfl, k4, rfl⟩
            go_wp2
            go_ret
            exact ⟨rfl, below_drewN hb8 _⟩
  · have k0 : (chk F R E n != 0) = true := by simpa using h0
    clear h0 hr hf'
    generalize chk F R E n = k at *
    go_enter Try.func13, Try.ntmps13
    go_wp2_with (fail)
    with_reducible refine hd.mono ?_
    rintro e w1 ⟨sx, sy, rfl, isx, isy, d1⟩
    have hb1 := b0.trans (d1.mono b0.size)
    have h_1 := h.below hb1
    have sA := sides_ok sx sy 30 40 isx isy (by decide) (by decide)
    clear isx isy
    have sB := True.intro
    go_wp2_with (fail)
    with_reducible refine (sA _).mono ?_
    rintro e w' ⟨rfl, rfl⟩
    go_wp2_with (fail)
    with_reducible refine (c1 _ h_1).mono ?_
    rintro e w2 ⟨rfl, d2⟩
    have hb2 := hb1.trans (d2.mono hb1.size)
    have h_2 := h_1.below d2
    go_wp2
    go_ret
    exact ⟨rfl, hb2⟩
end Go.Proofs.Ytkiefceomgbbhaa
